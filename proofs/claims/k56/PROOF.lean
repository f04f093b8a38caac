import PyProof.Rows.All
import Wide.All
import OpenK.AllK
import Wide.FinOn
import Lean
import PyProof.EqAt
import PyProof.EqKinds
import PyProof.TupleCall
import PyProof.NeKinds
import PyProof.EnumMake
import PyProof.EnumStmt
import PyProof.Draws
import PyProof.WalksT
import PyProof.StrWalks
import PyProof.Rows.EnumRows
import PyProof.StrLawsIdx
import PyProof.StrBlockI
import PyProof.StationsW
import PyProof.ExcInit
import PyProof.ExcBaseAll.ValueError
import PyProof.ExcAttrAll.ValueError
import PyProof.Rows.CatchOwn
import PyProof.CompUse
import PyProof.CompFree
import PyProof.SetKind
import PyProof.SetScanFacts
import PyProof.SetRoads
import PyProof.SetNew
import PyProof.Rows.SetFrom
import PyProof.CollectWalk
import PyProof.Rows.SortShell
import PyProof.Cells
import PyProof.ListRange
import PyProof.ConsumeWalk
import PyProof.Tail
import PyProof.CallStr
import PyProof.AutoSeq1
import PyProof.SeqRoads2
import PyProof.FactsAll.bool_1
import PyProof.FactsAll.NoneType_1
import PyProof.FactsAll.range_1
import PyProof.DictRoads
import PyProof.DictStraight
import PyProof.MeetsDictList
import PyProof.FactsAll.dict_3
import KE.KDictList
import PyProof.DictDisplay
import KE.KDictOf
import PyProof.NsDelKeeps
import PyProof.RangeIter
import PyProof.TableTree
import PySem.Challenge.RW_holdtalk_k56_two_houses
set_option Elab.async false
set_option linter.all false
set_option maxRecDepth 100000
set_option autoImplicit true
set_option relaxedAutoImplicit true
set_option maxHeartbeats 64000000
local macro_rules|`(#[$xs,*])=>`(⟨$xs,*⟩)
local macro_rules|`(#v[$xs,*])=>`(List.toArray [$xs,*])
set_option hygiene false
local macro_rules|`(%[|0])=>`((by omega))
local macro_rules|`(%[|1])=>`((by simp))
local macro_rules|`(%[|2])=>`((by decide))
local macro_rules|`(%[|3])=>`(List Addr)
local macro_rules|`(%[|4])=>`(Inv X pins σ H s)
local macro_rules|`(%[|5])=>`(Ev P w K mg tL dt du dM cK cH cT cL cW dg dn cN cO cG cS cB dr)
local macro_rules|`(%[|6])=>`(List Value)
local macro_rules|`(%[|7])=>`(FT P w K mg)
local macro_rules|`(%[|8])=>`(Fc P w K mg)
local macro_rules|`(%[|9])=>`((.lst []))
local macro_rules|`(%[|10])=>`((by rfl))
local macro_rules|`(%[|11])=>`((by intro z;cases z))
local macro_rules|`(%[|12])=>`((.lst xs))
local macro_rules|`(%[|13])=>`((AF (pv 0) rfl))
local macro_rules|`(%[|14])=>`(Option Value)
local macro_rules|`(%[|15])=>`(AG true t)
local macro_rules|`(%[|16])=>`(Inv X pins σ)
local macro_rules|`(%[|17])=>`(Option Bool)
local macro_rules|`(%[|18])=>`((model X.prog X.w))
local macro_rules|`(%[|19])=>`(List %[|111])
local macro_rules|`(%[|20])=>`(wpAny %[|18] X.A)
local macro_rules|`(%[|21])=>`(A0C M C cK H S)
local macro_rules|`(%[|22])=>`(List Expr)
local macro_rules|`(%[|23])=>`(FM P w K mg)
local macro_rules|`(%[|24])=>`((AA (E1:=E) λ_ _ _ h=>h))
local macro_rules|`(%[|25])=>`(List %[|109])
local macro_rules|`(%[|26])=>`((X.cmp N scope cl c))
local macro_rules|`(tactic|exists 0)=>`(tactic|intro pins s σ H Q I h)
local macro_rules|`(%[|27])=>`((Am Ar (pv 1) Ad))
local macro_rules|`(%[|28])=>`((ns.map V.int))
local macro_rules|`(%[|29])=>`(AG false t)
local macro_rules|`(%[|30])=>`(A0E M C H a U W)
local macro_rules|`(%[|31])=>`(wpAny %[|33] A)
local macro_rules|`(%[|32])=>`((by with_unfolding_all rfl))
local macro_rules|`(%[|33])=>`((model prog w))
local macro_rules|`(%[|34])=>`(Option Nat)
local macro_rules|`(%[|35])=>`((by decide +kernel))
local macro_rules|`(%[|36])=>`((λ_=>False))
local macro_rules|`(%[|37])=>`(AB Z.m Z.room Z.marks)
local macro_rules|`(tactic|exists 1)=>`(tactic|refine wpAny_bind ?_)
local macro_rules|`(%[|38])=>`((wpAny_pure ?_))
local macro_rules|`(%[|39])=>`(Fm P w K mg cH)
local macro_rules|`(%[|40])=>`(A5 I q %[|1])
local macro_rules|`(tactic|exists 2)=>`(tactic|intro pins s σ H x y v u Q I rx ry h)
local macro_rules|`(%[|41])=>`((s.heap.objs.size+1))
local macro_rules|`(%[|42])=>`(A0G w s.heap)
local macro_rules|`(tactic|exists 3)=>`(tactic|obtain⟨t,rfl⟩:=rx)
local macro_rules|`(%[|43])=>`(#[by decide,by decide])
local macro_rules|`(%[|44])=>`(("space",.ref sp))
local macro_rules|`(%[|45])=>`([#[tg,df,dw,0],#[d5,di,dA,0]])
local macro_rules|`(%[|46])=>`((.ref s.heap.objs.size))
local macro_rules|`(%[|47])=>`(("many",.int many))
local macro_rules|`(tactic|exists 4)=>`(tactic|intro pins s σ H xs us Q I r h)
local macro_rules|`(tactic|exists 5)=>`(tactic|refine wpAny_pure ?_)
local macro_rules|`(%[|48])=>`((x == ("__debug__":Str)))
local macro_rules|`(%[|49])=>`((s.heap.push (Bw w)))
local macro_rules|`(%[|50])=>`((Am Ar (pv 0) Ad))
local macro_rules|`(%[|51])=>`((EP X pins σ Q))
local macro_rules|`(%[|52])=>`((false,eval e X.env))
local macro_rules|`(%[|53])=>`(("kind",.str kind))
local macro_rules|`(%[|54])=>`((Am Az (pv 0) Ae))
local macro_rules|`(tactic|exists 6)=>`(tactic|rcases List.mem_cons.mp hc with rfl|hc)
local macro_rules|`(%[|55])=>`((Ap Bf (pv 0) Ad))
local macro_rules|`(%[|56])=>`((Am Az (pv 2) Ae))
local macro_rules|`(%[|57])=>`((Am Ar (pv 3) Ad))
local macro_rules|`(tactic|exists 7)=>`(tactic|intro pins s σ H D I h)
local macro_rules|`(%[|58])=>`((by rw[List.length_map];omega))
local macro_rules|`(%[|59])=>`((λz=>nomatch z))
local macro_rules|`(%[|60])=>`(AM AH %[|27] Ae)
local macro_rules|`(tactic|exists 8)=>`(tactic|refine#[SqT.of hp,Ac (j:=0) rfl,rfl,?_])
local macro_rules|`(tactic|exists 9)=>`(tactic|refine#[SqT.of hd,Ac (j:=0) rfl,rfl,AD ?_])
local macro_rules|`(%[|61])=>`((BX W.many W.kind W.rule W.t W.room))
local macro_rules|`(%[|62])=>`((ha pins s σ H _ I h))
local macro_rules|`(%[|63])=>`(AJ AZ %[|10] de.T.lst Bh)
local macro_rules|`(%[|64])=>`(Cs p.w S.seen t)
local macro_rules|`(tactic|exists 10)=>`(tactic|simp only[zAD,zAB,or_false]at hc)
local macro_rules|`(%[|65])=>`((s2.heap.push {cls:=.type "list",data:=.seq ([]:List Value).toArray}))
local macro_rules|`(%[|66])=>`((k∉CM S.ts->E (.ref dg) none H))
local macro_rules|`(%[|67])=>`(AQ A3 %[|10] de.B.len zBC)
local macro_rules|`(%[|68])=>`(Bs %[|10] de.B.range)
local macro_rules|`(%[|69])=>`(A0O C cK M H S Z n)
local macro_rules|`(%[|70])=>`(SqL K H r %[|86])
local macro_rules|`(%[|71])=>`((backTo pos (starEach es X.env)))
local macro_rules|`(%[|72])=>`((upd H2 wl (.lst xs.dropLast)))
local macro_rules|`(tactic|exists 11)=>`(tactic|simp only[Be,AB,B3 hT.na hp])
local macro_rules|`(%[|73])=>`(([V.str "house",.str (toString (m:Int):String)]++ts.map λt=>V.str (Ch t)))
local macro_rules|`(%[|74])=>`((Ax (Cz de) hr Al (AN (pv 0) Ad)))
local macro_rules|`(%[|75])=>`((("say":Str)++" "++p.nm))
local macro_rules|`(%[|76])=>`(A0L N C H x U m room marks ls)
local macro_rules|`(tactic|exists 12)=>`(tactic|refine Cb (λc=>?_) (λc=>?_))
local macro_rules|`(tactic|exists 13)=>`(tactic|refine#[SqT.of hd,Ac (j:=0) rfl,rfl,Aw ?_])
local macro_rules|`(%[|77])=>`((.lst (List.replicate m .non)))
local macro_rules|`(%[|78])=>`((.builtin "object.__class__"))
local macro_rules|`(tactic|exists 14)=>`(tactic|refine#[hT.h.ob,BU,M,S,k,rfl,hT,λc=>qN c,λp hp ep=>?_])
local macro_rules|`(%[|79])=>`((FS n d sd sa hl sds [.ref ba] v Z.m kd rl t Z.room))
local macro_rules|`(%[|80])=>`((.ListComp dy (#[tg,df,dw,0]::rest) scope pos))
local macro_rules|`(%[|81])=>`(#[by decide,by decide,by decide])
local macro_rules|`(%[|82])=>`((.Call (.Name x p) (e::es) [] pos))
local macro_rules|`(%[|83])=>`(EK X.prog X.w X.K X.mg X.base CX k f fd ps sp)
local macro_rules|`(%[|84])=>`(Kt cL cW dg dn cN cO cG)
local macro_rules|`(tactic|exists 15)=>`(tactic|intro pins s σ H x vs v us Q I rx rv h)
local macro_rules|`(%[|85])=>`(((relabel scope X.env).names.lookup x=some .cell\/(relabel scope X.env).names.lookup x=some .free))
local macro_rules|`(%[|86])=>`((row.map V.int))
local macro_rules|`(%[|87])=>`(A1J C cK G hl zl x0 x1 z0 z1 m0)
local macro_rules|`(tactic|exists 16)=>`(tactic|obtain⟨f0,f1,f2,f3,f4,f5⟩:=hf it (by simp))
local macro_rules|`(tactic|exists 17)=>`(tactic|intro value fb pins s σ H x y v u Q I rx ry h hs)
local macro_rules|`(tactic|exists 18)=>`(tactic|repeat (any_goals (first|assumption|wp_step)))
local macro_rules|`(tactic|exists 19)=>`(tactic|rintro bz f dm A outer s H _ Q E hr ⟨a,M,U,W,rfl,h,q⟩)
local macro_rules|`(%[|88])=>`((.lst [.str "house",.str (toString (m:Int):String)]))
local macro_rules|`(%[|89])=>`((if p.nm=k then (#[p.nm,p.a,u,w]:Tw)else p))
local macro_rules|`(%[|90])=>`((BE X.w s2.heap.objs.size (λ_=>false) 0))
local macro_rules|`(%[|91])=>`((.ListComp dy [#[tg,df,dw,0]] scope pos))
local macro_rules|`(%[|92])=>`((Ax (Ci de 23) hr Al (AN (pv 1) (pv 0))))
local macro_rules|`(%[|93])=>`((some (.builtin "object.__setattr__")))
local macro_rules|`(tactic|exists 20)=>`(tactic|refine wpAny_bind (wpAny_standAt (wpAny_bind (AU h λr s₁ h₁=>?_))))
local macro_rules|`(tactic|exists 21)=>`(tactic|refine wpAny_bind (AU h₁ λ_ s2 h2=>wpAny_bind (AU h2 λ_ s3 h3=>wpAny_bind (AU h3 λok s4 h4=>?_))))
local macro_rules|`(tactic|exists 22)=>`(tactic|refine wpAny_bind (wpAny_setField hoi hdi (by simp) ?_))
local macro_rules|`(%[|94])=>`((λc1=>(Bo 0 (show (["_law_world","_law_sentence_here"]:List Str).Nodup by decide +kernel))))
local macro_rules|`(%[|95])=>`((.lst (ls++[.str (AE [Str.ofString "learn",#[#v[97+j]],BR k])])))
local macro_rules|`(%[|96])=>`((λj=>Option.map (λx=>(j,x)) (owner.getD j none)))
local macro_rules|`(%[|97])=>`((∀σ' H',N σ' H'->∃m',m'<m/\W (i+1) m' σ' H'))
local macro_rules|`(%[|98])=>`((Cv (Cv (DL p) "name" (.str n)) "said" (.ref sa)))
local macro_rules|`(%[|99])=>`((upd (upd H3 wl (.lst iF)) sl (.lst (ys++[y]))))
local macro_rules|`(%[|100])=>`(Io CX P w K mg base N dz scope f)
local macro_rules|`(tactic|exists 23)=>`(tactic|refine#[.inl (kB _),.inl #[by decide,by decide],(by show (0:Int)<2147483629;decide),?_])
local macro_rules|`(tactic|exists 24)=>`(tactic|refine#[SqT.of hd,Ac (j:=1) rfl,M,Z,k,rfl,hZ,zA7 hO.ts,λc=>?_,λp hp ep=>?_])
local macro_rules|`(%[|101])=>`((Str.ofString "house"::Str.ofString (toString (m:Int))::ts.map Ch))
local macro_rules|`(%[|102])=>`([some (.ref a),some (.ref fo),some (.int (i:Int)),some (.str nm)])
local macro_rules|`(%[|103])=>`([V.int 1,V.int (10^(5:Int).toNat),V.int (10^(11:Int).toNat)])
local macro_rules|`(%[|104])=>`([V.int 1,.int (10^(7:Int).toNat),.int (10^(14:Int).toNat)])
local macro_rules|`(tactic|exists 25)=>`(tactic|rcases (show k=((0:Nat):Int)\/k=((1:Nat):Int)\/k=((2:Nat):Int) by omega)with rfl|rfl|rfl)
local macro_rules|`(%[|105])=>`([some (.int m2),some (.int most),some (.int many),some (.ref jl),some (.ref pl),some (.int size),tv,dv,rv])
local macro_rules|`(%[|106])=>`((λr s'=>r=.ok (.ret (.bool true))/\OldK s₁.heap s'.heap/\s'.os=s₁.os/\AllBare s'.gens))
local macro_rules|`(%[|107])=>`(((e::es).length+([]:List Keyword).length+(if ([]:List Keyword).isEmpty then 0 else 1)<30))
local macro_rules|`(%[|108])=>`(((dh.toList.drop (sIx dh.size 0 lo)).take (sIx dh.size dh.size hi-sIx dh.size 0 lo)))
local macro_rules|`(%[|109])=>`((List Int))
local macro_rules|`(tactic|exists 26)=>`(tactic|exact Cw (X:=X.cmp N scope cl #[{s2 with heap:=s2.heap.push {cls:=.type "list",data:=.seq ([]:List Value).toArray}},upd H2 s2.heap.objs.size (.lst []),fp]) rfl rfl rfl (λ_=>rfl) True.intro d7 (T.self _ 0 _ _ _ iZ d7))
local macro_rules|`(tactic|exists 27)=>`(tactic|have lt3:∀b ob,({s2 with heap:=s2.heap.push {cls:=.type "list",data:=.seq ([]:List Value).toArray}}:Shared).heap.get? b=some ob->b<(s2.heap.push {cls:=.type "list",data:=.seq ([]:List Value).toArray}).objs.size:=λb ob e=>zAF e)
local macro_rules|`(tactic|exists 28)=>`(tactic|refine#[eX.ob,HC,p.sd,gl,sn,v,t,p.sds,p.w.sides,p.w.going,_,rfl,ha.keep (TS.same s1),eW,hsz,SqL.of (A0D _ _ eX.sd),eX.sr.keep A0D,hW.s9,by rw[eg];exact SqL.of (A0D _ _ iP),gl9,SqL.of g9,ls,λH2 s2=>q' H2 (s1.trans s2)])
local macro_rules|`(tactic|exists 29)=>`(tactic|exact q r .non _ _ _ A0A rfl (MGo.go (N:=[d,sa,hl]) (L:=[Z.tl,Z.ln]) hM b1 TF (Xu hZ) (λc hc=>Me ft c hc) (Ca d0 a0 l0) (Hw (ft.tt _ (zAE _ List.mem_cons_self))) (Ab hr _) ft rfl rfl rfl rfl (LQ _ _) rfl (λ_ h=>Ll h)))
local macro_rules|`(%[|110])=>`((wpAny_pyIter_list pl.isList #[s.heap.objs.size,_,_,_,_,_,λi=>bs.getD i false,rfl,Walks.list (by have:=I.ok.hd hc;simpa using this) s.heap.objs.size l (zAI dQ) its.toArray,#[#[_,Heap.get?_push_size _ rfl,rfl,rfl],pl.isList.push _],Mf rv,λh' tk kk=>?_]))
local macro_rules|`(%[|111])=>`((Addr×Obj))
local macro_rules|`(%[|112])=>`(Inv X pins σ)
local macro_rules|`(%[|113])=>`(Inv X pins σ)
local macro_rules|`(%[|114])=>`(Inv X pins σ)
local macro_rules|`(%[|115])=>`(Inv X pins σ)
local macro_rules|`(%[$a|116])=>`((List.mem_cons_of_mem _ $a))
local macro_rules|`(%[$a|117])=>`((List.getElem?_eq_some_iff.mp $a))
local macro_rules|`(%[$a|118])=>`((By (pv 0) de.HX.cl $a hr %[|24] (AI (pv 1))))
local macro_rules|`(%[$a|119])=>`((λi σ H2=>∃v0,BV (σ=v0::rest) (A0B H H2) (H2 acc=some (.lst $a))))
local macro_rules|`(%[$a|120])=>`((Heap.get?_push_of_some _ $a))
local macro_rules|`(%[$a|121])=>`((.lst ((Z.ts.map λp=>V.ref p.d)++[.ref $a])))
local macro_rules|`(%[$a|122])=>`((λc1=>(Bo 0 (show ([$a]:List Str).Nodup by decide +kernel))))
set_option hygiene true
set_option hygiene false
local macro_rules|`(tactic|exists 600)=>`(tactic|(
 refine#[SqT.of hd,Ac (j:=0) rfl,rfl,Aw ?_]
 refine#[SqT.of hd,Ac (j:=0) rfl,rfl,Aw ?_]))
local macro_rules|`(tactic|exists 601)=>`(tactic|(
 refine wpAny_bind ?_
 simp only[newExc,newTuple]
 refine wpAny_bind (wpAny_newObj_type ?_ (by size_fits))
 refine wpAny_bind (m:=firstArgMember _ _) (wpAny_of_eq (a:=Value.none) (by first|rfl|(simp only[firstArgMember];rfl)) ?_)
 refine wpAny_newObj_type ?_ (by size_fits)
 simp only[raiseNew]
 refine wpAny_bind (wpAny_handled ?_)
 rw[show A.in1.handled=none from hh]
 refine wpAny_bind (wpAny_pure (wpAny_throw ?_))
 refine wpAny_bind (wpAny_isInstance (T:="StopIteration") (b:=true) #[_,Heap.get?_push_size _ rfl,rfl] isSubtype_stop ?_)))
local macro_rules|`(tactic|exists 602)=>`(tactic|(
 have I3:=I2.lnew (ys:=[]) (its:=[]) (t':=s2.toks) .nil (zA5 _)
 have ij:∀b∈fp,b<s2.heap.objs.size:=λb hb=>by
  obtain⟨o,e,_⟩:=T.obj 0 _ gJ b hb
  exact zAF e
 have fpa:∀b∈fp,b≠s2.heap.objs.size:=λb hb=>zAI (ij b hb)
 have f3:∀b∈fp,CP X pins (upd H2 s2.heap.objs.size %[|9]) b:=λb hb=>#[by rw[Af (fpa b hb)];exact (f2 b hb).1,(f2 b hb).2]
 have hR':=hR #[{s2 with heap:=s2.heap.push {cls:=.type "list",data:=.seq ([]:%[|6]).toArray}},upd H2 s2.heap.objs.size %[|9],fp] s2.heap.objs.size I2.fresh))
local macro_rules|`(tactic|exists 603)=>`(tactic|(
 have I4:=I3.cmp (N:=N) (cl:=cl) (js:=js) (t':=s2.toks) f3 (λb hb=>by
  show b<(s2.heap.push _).objs.size
  rw[zAU]
  exact zA2 (ij b hb)) hk fR hcn ix hl gx fF
 have iZ:tn 0 h₁:=T.keep 0 _ _ gJ λb hb o e=>(fF.2 b (by
  rw[zAU]
  exact zAI (zA2 (ij b hb)))).trans %[(Heap.get?_push_of_some _ e)|120]
 have f4:∀b∈fp,CP (X.cmp N scope cl #[{s2 with heap:=s2.heap.push {cls:=.type "list",data:=.seq ([]:%[|6]).toArray}},upd H2 s2.heap.objs.size %[|9],fp]) [] (upd H2 s2.heap.objs.size %[|9]) b:=λb hb=>
  #[(f3 b hb).1,(I4.ok.exf b hb).1,I4.ok.exfs b hb,.inl hb,(I4.ok.exf b hb).2,λp hp=>absurd (show p∈([]:%[|19]) from hp) %[|1]]))
local macro_rules|`(tactic|exists 604)=>`(tactic|(
 have eZ:H' s.heap.objs.size=none:=J.free
 refine I.call' (ch:=fp) (s':={s' with heap:=gU}) J.os #[λb o e n hb hx=>(fe.2 b (ne b o e)).trans (u.keep b o e n hb hx),λb o e n hb hx=>?_,u.free,λb o e hx=>?_,u.tups,u.frzs,u.tbls] (λb ob e=>?_) J.bare λb hb=>#[(hf b hb).2.2.2.1,(hf b hb).2.1,(hf b hb).2.2.2.2.1,(hf b hb).2.2.2.2.2]
 ·obtain⟨sl,e1⟩:=u.slot b o e n hb hx
  exact#[sl,(fe.2 b (ne b o e)).trans e1]
 ·obtain⟨o',e1⟩:=u.there b o e hx
  exact#[o',(fe.2 b (ne b o e)).trans e1]
 ·refine (J.hok b ob e).stay (λc w' hc q=>(fe.2 c ?_).trans q) (λ_ q=>q) λ_ _ q=>q
  rintro rfl
  rcases hc with z|z
  ·rw[<-z,eZ]at e;cases e
  ·rw[eZ]at z;cases z))
local macro_rules|`(tactic|exists 605)=>`(tactic|(
 unfold pyNext
 refine wpAny_bind (wpAny_attempt (wpAny_callSpecial?_slot (name:=Str.ofString "__next__") iK.typeIs A0U
  (wpAny_call_entry A0U iK.typeIs Dk ?_ (DN _))))
 show wpAny _ _ (fieldsOf (.ref it) >>= _) _ _ s
 refine wpAny_bind (wpAny_fieldsOf hoi hdi ?_)
 show wpAny _ _ (setEntries a >>= _) _ _ s
 refine wpAny_bind (wpAny_setEntries_of ho hd hf ?_)
 show wpAny _ _ (if (((es.size:Nat):Int) != ((es.size:Nat):Int))=true then _ else _) _ _ _
 rw[if_neg %[|1]]
 have eK:=λf2:Value=>zBD hdi (·.setIfInBounds 0 f2)
 have gz:=λf2:Value=>Heap.get?_update_self (Obj.mapFields (·.setIfInBounds 0 f2)) hoi (zBY (eK f2))))
local macro_rules|`(tactic|exists 606)=>`(tactic|(
 refine wpAny_bind (wpAny_setState_of ho hd hf ?_)
 dsimp only
 refine wpAny_bind (wpAny_bind (wpAny_askSetting %[|38]))))
local macro_rules|`(tactic|exists 607)=>`(tactic|(
 rw[e]at q
 exact q r .non M _ Z A0A rfl (MGo.no hZ hM (Ab hr _))))
local macro_rules|`(tactic|exists 608)=>`(tactic|(
 intro X hP hw hK hc i pins s σ H E I hf st hg
 subst hP hw hK))
local macro_rules|`(tactic|exists 609)=>`(tactic|(
 simp only[zAD,zAB,or_false]at hc
 rcases hc with rfl|rfl))
local macro_rules|`(tactic|exists 610)=>`(tactic|(
 refine#[λi m σ H=>m=xs.length-i/\i<=xs.length/\Pv i σ H,#[xs.length,by simp,zA5 _,h0],?_]
 rintro i m σ H ⟨rfl,hi,p⟩
 have q:=hl i σ H hi p
 by_cases dQ:i<xs.length
 ·refine .inr #[#[xs,xs[i],q,by simp[dQ]],Pv (i+1),λσ' H' p'=>#[xs.length-(i+1),by omega,rfl,dQ,p'],λx H' y=>?_]
  obtain⟨e,y⟩:=y
  subst e
  exact hs i x σ _ (y xs q) p
 ·have e:i=xs.length:=by omega
  subst e
  exact .inl #[#[xs,q,zAA _],hd σ H p]))
set_option hygiene true
namespace Aq
abbrev zA:=@List.length_append
abbrev zAA:=@Nat.le_refl
abbrev zAB:=@List.not_mem_nil
abbrev zAC:=@Nat.le_trans
abbrev zAD:=@List.mem_cons
abbrev zAE:=@List.mem_append_right
abbrev zAF:=@PySem.Heap.lt_size
abbrev zAG:=@Bool.false_ne_true
abbrev zAH:=@Option.some.inj
abbrev zAI:=@Nat.ne_of_lt
abbrev zAJ:=@List.mem_of_getElem?
abbrev zAK:=@List.size_toArray
abbrev zAL:=@Array.length_toList
abbrev zAM:=@List.filter_sublist
abbrev zAN:=@Nat.lt_of_lt_of_le
abbrev zAO:=@List.length_cons
abbrev zAP:=@List.take_length
abbrev zAQ:=@List.take_add_one
abbrev zAR:=@PySem.PassesOwn.never
abbrev zAS:=@List.map_cons
abbrev zAT:=@PySem.Heap.SameBut.update
abbrev zAU:=@PySem.Heap.size_push
abbrev zAV:=@List.length_filter_le
abbrev zAW:=@List.length_take
abbrev zAX:=@Bool.and_eq_true
abbrev zAY:=@List.dropLast_concat
abbrev zAZ:=@PySem.mem_of_lookup
abbrev zA0:=@List.map_map
abbrev zA1:=@Int.emod_nonneg
abbrev zA2:=@Nat.lt_succ_of_lt
abbrev zA3:=@Int.emod_lt_of_pos
abbrev zA4:=@Bool.eq_iff_iff
abbrev zA5:=@Nat.zero_le
abbrev zA6:=@List.append_nil
abbrev zA7:=@Nat.le_of_lt
abbrev zA8:=@List.filterMap_cons_some
abbrev zA9:=@List.mem_map_of_mem
abbrev zB:=@Ne.symm
abbrev zBA:=@Nat.le_succ
abbrev zBB:=@PySem.Heap.SameBut.refl
abbrev zBC:=@PySem.boot_len
abbrev zBD:=@PySem.Obj.data_mapFields
abbrev zBE:=@Bool.or_eq_true
abbrev zBF:=@List.replicate_succ
abbrev zBG:=@Int.toNat_natCast
abbrev zBH:=@Nat.succ_pos
abbrev zBI:=@List.nodup_nil
abbrev zBJ:=@List.filterMap_cons_none
abbrev zBK:=@PySem.W.kia_one
abbrev zBL:=@PySem.F.plainAttrs_list
abbrev zBM:=@List.mem_append_left
abbrev zBN:=@Nat.lt_irrefl
abbrev zBO:=@Nat.ne_of_gt
abbrev zBP:=@Bool.false_eq_true
abbrev zBQ:=@List.sum_cons
abbrev zBR:=@List.length_dropLast
abbrev zBS:=@List.Perm.refl
abbrev zBT:=@Int.eq_ofNat_of_zero_le
abbrev zBU:=@List.forall_mem_nil
abbrev zBV:=@PySem.Paired.length
abbrev zBW:=@List.any_cons
abbrev zBX:=@List.filter_cons
abbrev zBY:=@PySem.Obj.isFreed_of_fields
abbrev zBZ:=@List.mem_singleton
abbrev zB0:=@PySem.SeqAt.EqAt.same
abbrev zB1:=@Nat.lt_trans
abbrev zB2:=@List.append_assoc
abbrev zB3:=@List.Sublist.refl
abbrev zB4:=@List.map_congr_left
abbrev zB5:=@Nat.lt_succ_self
abbrev zB6:=@PySem.F.plainAttrs_str
abbrev zB7:=@PyProof.Rows.callWith_type1
abbrev zB8:=@List.filter_append
abbrev zB9:=@Int.zero_add
abbrev zC:=@List.take_append_drop
abbrev zCA:=@Int.ediv_nonneg
abbrev zCB:=@PySem.F.slot_str_join
abbrev zCC:=@PySem.F.type_str_join
abbrev zCD:=@List.length_range
abbrev zCE:=@PySem.Around.under_plainId
abbrev zCF:=@List.any_eq_true
abbrev zCG:=@List.all_eq_true
abbrev zCH:=@List.eraseIdx_eq_take_drop_succ
abbrev zCI:=@PySem.W.callWith_K
abbrev zCJ:=@Nat.not_lt_zero
abbrev zCK:=@List.filter_nil
abbrev zCL:=@List.flatten_cons
abbrev zCM:=@List.getElem_mem
abbrev zCN:=@Int.fdiv_eq_ediv_of_nonneg
abbrev zCO:=@Bool.or_false
abbrev zCP:=@Bool.not_true
abbrev zCQ:=@Sum.inr.inj
abbrev zCR:=@List.sum_append
abbrev zCS:=@Nat.lt_of_le_of_lt
abbrev zCT:=@PySem.Code.quiet_builtin
abbrev zCU:=@PySem.F.slot_list_extend
abbrev zCV:=@PySem.F.type_list_extend
abbrev zCW:=@PyProof.Rows.F.plain_set_update_loop
abbrev zCX:=@List.filter_cons_of_neg
abbrev zCY:=@List.filter_cons_of_pos
abbrev zCZ:=@List.reverse_cons
abbrev zC0:=@List.filter_congr
abbrev zC1:=@PySem.Calls.callWith_builtin
abbrev zC2:=@List.pairwise_lt_range
abbrev zC3:=@Nat.lt_of_succ_lt_succ
abbrev zC4:=@List.length_pos_of_mem
abbrev zC5:=@List.all_cons
abbrev zC6:=@PySem.W.Looks.ld
abbrev zC7:=@List.ext_getElem
abbrev zC8:=@List.lookup_cons
abbrev zC9:=@List.cons_ne_nil
abbrev zD:=@List.length_replicate
abbrev zDA:=@List.mem_append
abbrev zDB:=@List.length_eraseIdx
abbrev zDC:=@Array.toArray_toList
abbrev zDD:=@List.all_map
abbrev zDE:=@List.all_append
abbrev zDF:=@PySem.W.plainGet_of
abbrev zDG:=@PySem.W.looks_mroIn
abbrev zDH:=@List.toList_toArray
abbrev zDI:=@Int.le_refl
abbrev zDJ:=@PySem.SeqAt.EqAt.str_str
abbrev zDK:=@PySem.SeqAt.EqAt.of_refs
abbrev zDL:=@List.map_filterMap
abbrev zDM:=@PySem.Obj.cls_mapFields
abbrev zDN:=@List.map_nil
abbrev zDO:=@PySem.SeqAt.RcAt.lists
abbrev zDP:=@Nat.lt_or_ge
abbrev zDQ:=@List.any_map
end Aq
open Aq
universe u1 u2 u3 u4 u5 u6 u7 u8 u9 u10 u11 u12 u13 u14 u15 u16
inductive Cd{α1:Sort u1}{α2:Sort u2}(p:α1->α2->Prop):Prop where
 |mk (x1:α1) (x2:α2) (_:p x1 x2)
inductive Fb{α1:Sort u1}{α2:Sort u2}{α3:Sort u3}(p:α1->α2->α3->Prop):Prop where
 |mk (x1:α1) (x2:α2) (x3:α3) (_:p x1 x2 x3)
inductive TN{α1:Sort u1}{α2:Sort u2}{α3:Sort u3}{α4:Sort u4}(p:α1->α2->α3->α4->Prop):Prop where
 |mk (x1:α1) (x2:α2) (x3:α3) (x4:α4) (_:p x1 x2 x3 x4)
inductive cu{α1:Sort u1}{α2:Sort u2}{α3:Sort u3}{α4:Sort u4}{α5:Sort u5}(p:α1->α2->α3->α4->α5->Prop):Prop where
 |mk (x1:α1) (x2:α2) (x3:α3) (x4:α4) (x5:α5) (_:p x1 x2 x3 x4 x5)
inductive cU{α1:Sort u1}{α2:Sort u2}{α3:Sort u3}{α4:Sort u4}{α5:Sort u5}{α6:Sort u6}(p:α1->α2->α3->α4->α5->α6->Prop):Prop where
 |mk (x1:α1) (x2:α2) (x3:α3) (x4:α4) (x5:α5) (x6:α6) (_:p x1 x2 x3 x4 x5 x6)
inductive cX{α1:Sort u1}{α2:Sort u2}{α3:Sort u3}{α4:Sort u4}{α5:Sort u5}{α6:Sort u6}{α7:Sort u7}{α8:Sort u8}{α9:Sort u9}(p:α1->α2->α3->α4->α5->α6->α7->α8->α9->Prop):Prop where
 |mk (x1:α1) (x2:α2) (x3:α3) (x4:α4) (x5:α5) (x6:α6) (x7:α7) (x8:α8) (x9:α9) (_:p x1 x2 x3 x4 x5 x6 x7 x8 x9)
inductive bP{α1:Sort u1}{α2:Sort u2}{α3:Sort u3}{α4:Sort u4}{α5:Sort u5}{α6:Sort u6}{α7:Sort u7}{α8:Sort u8}{α9:Sort u9}{α10:Sort u10}{α11:Sort u11}{α12:Sort u12}{α13:Sort u13}{α14:Sort u14}{α15:Sort u15}(p:α1->α2->α3->α4->α5->α6->α7->α8->α9->α10->α11->α12->α13->α14->α15->Prop):Prop where
 |mk (x1:α1) (x2:α2) (x3:α3) (x4:α4) (x5:α5) (x6:α6) (x7:α7) (x8:α8) (x9:α9) (x10:α10) (jy:α11) (x12:α12) (x13:α13) (x14:α14) (x15:α15) (_:p x1 x2 x3 x4 x5 x6 x7 x8 x9 x10 jy x12 x13 x14 x15)
inductive BV(p1 p2 p3:Prop):Prop where
 |mk (_:p1) (_:p2) (_:p3)
inductive Im(p1 p2 p3 p4:Prop):Prop where
 |mk (_:p1) (_:p2) (_:p3) (_:p4)
inductive Il(p1 p2 p3 p4 p5:Prop):Prop where
 |mk (_:p1) (_:p2) (_:p3) (_:p4) (_:p5)
inductive Zw(p1 p2 p3 p4 p5 p6:Prop):Prop where
 |mk (_:p1) (_:p2) (_:p3) (_:p4) (_:p5) (_:p6)
inductive aW(p1 p2 p3 p4 p5 p6 p7:Prop):Prop where
 |mk (_:p1) (_:p2) (_:p3) (_:p4) (_:p5) (_:p6) (_:p7)
inductive cp(p1 p2 p3 p4 p5 p6 p7 p8:Prop):Prop where
 |mk (_:p1) (_:p2) (_:p3) (_:p4) (_:p5) (_:p6) (_:p7) (_:p8)
inductive cF(p1 p2 p3 p4 p5 p6 p7 p8 p9:Prop):Prop where
 |mk (_:p1) (_:p2) (_:p3) (_:p4) (_:p5) (_:p6) (_:p7) (_:p8) (_:p9)
inductive ag(p1 p2 p3 p4 p5 p6 p7 p8 p9 p10:Prop):Prop where
 |mk (_:p1) (_:p2) (_:p3) (_:p4) (_:p5) (_:p6) (_:p7) (_:p8) (_:p9) (_:p10)
inductive Wq(p1 p2 p3 p4 p5 p6 p7 p8 p9 p10 p11:Prop):Prop where
 |mk (_:p1) (_:p2) (_:p3) (_:p4) (_:p5) (_:p6) (_:p7) (_:p8) (_:p9) (_:p10) (_:p11)
namespace L2
open PySem PySem.Spec PyProof.Rows
abbrev DO:=Sum Int Str
def L6:DO->Value->Bool
 |.inl k,v=>Value.isInt k v
 |.inr x,v=>Value.isStrOf x v
def bK(w:World):DO->Int
 |.inl k=>hashInt k
 |.inr x=>hashStr w x
theorem Bm:∀{k:DO}{v:Value},L6 k v=true->(Cd λi t=>k=Sum.inl i/\v=Value.int i t)\/(Cd λx t=>k=Sum.inr x/\v=Value.str x t)
 |.inl i,v,h=>by
  obtain⟨t,e⟩:=Value.isInt_shape (k:=i) (v:=v) h;exact .inl #[i,t,rfl,e]
 |.inr x,v,h=>by
  obtain⟨t,e⟩:=Value.isStrOf_shape (x:=x) (v:=v) h;exact .inr #[x,t,rfl,e]
theorem QK(x:Str)(t:Tok):L6 (.inr x) (.str x t)=true:=by simp[L6,Value.isStrOf]
theorem Yv(a b:Int):decide ((Sum.inl a:DO)=Sum.inl b)=(a == b):=by
 by_cases e:a=b
 ·subst e;simp
 ·have h:¬(Sum.inl a:DO)=Sum.inl b:=λq=>e (Sum.inl.inj q)
  rw[decide_eq_false h];exact (beq_eq_false_iff_ne.mpr e).symm
theorem Zg(a b:Str):decide ((Sum.inr a:DO)=Sum.inr b)=decide (a=b):=by
 by_cases e:a=b
 ·subst e;simp
 ·have h:¬(Sum.inr a:DO)=Sum.inr b:=λq=>e (zCQ q)
  rw[decide_eq_false h,decide_eq_false e]
theorem Yw(a:Int)(b:Str):decide ((Sum.inl a:DO)=Sum.inr b)=false:=decide_eq_false (λq=>nomatch q)
theorem Zd(a:Str)(b:Int):decide ((Sum.inr a:DO)=Sum.inl b)=false:=decide_eq_false (λq=>nomatch q)
def CG(prog:Program)(w:World):PySem.KeyKind prog w DO where
 is:=L6
 hash:=bK w
 inj:=λv a b ha hb=>by
  rcases Bm ha with⟨i,t,rfl,rfl⟩|⟨x,t,rfl,rfl⟩
  ·rcases Bm hb with⟨j,u,rfl,e⟩|⟨y,u,rfl,e⟩
   ·injection e with e1 _;rw[e1]
   ·exact nomatch e
  ·rcases Bm hb with⟨j,u,rfl,e⟩|⟨y,u,rfl,e⟩
   ·exact nomatch e
   ·injection e with e1 _;rw[e1]
 byValue:=λk v h=>by
  rcases Bm h with⟨i,t,rfl,rfl⟩|⟨x,t,rfl,rfl⟩<;>rfl
 pyHash:=λhv h=>by
  rcases Bm hv with⟨i,t,rfl,rfl⟩|⟨x,t,rfl,rfl⟩
  ·exact wpAny_pyHash_int h
  ·exact wpAny_pyHash_str h
 eqBool:=λhu hv h=>by
  rcases Bm hu with⟨i,t,rfl,rfl⟩|⟨x,t,rfl,rfl⟩
  ·rcases Bm hv with⟨j,u,rfl,rfl⟩|⟨y,u,rfl,rfl⟩
   ·rw[Yv]at h;exact wpAny_eqBool_int h
   ·rw[Yw]at h;exact SeqAt.EqAt.int_str i t y u _ _ _ _ h
  ·rcases Bm hv with⟨j,u,rfl,rfl⟩|⟨y,u,rfl,rfl⟩
   ·rw[Zd]at h;exact SeqAt.EqAt.str_int x t j u _ _ _ _ h
   ·rw[Zg]at h;exact wpAny_eqBool_str h
 «strs»:=λk x t v h=>by
  rcases Bm h with⟨i,u,rfl,e⟩|⟨y,u,rfl,e⟩
  ·exact nomatch e
  ·injection e with e1 _
   subst e1;cases v<;>rfl
theorem BM(prog:Program)(w:World)(x:Str)(t:Tok):(CG prog w).is (.inr x) (.str x t)=true:=QK x t
inductive V where
 |non|bl (b:Bool)|int (i:Int)|str (x:Str)|byt (b:Array UInt8)|flt (b:UInt64)|ref (a:Addr)|ty (n:String)
 deriving DecidableEq
def RelV:V->Value->Prop
 |.non,u=>u=Value.none
 |.bl b,u=>u=Value.bool b
 |.int i,u=>∃t,u=Value.int i t
 |.str x,u=>∃t,u=Value.str x t
 |.byt b,u=>∃t,u=Value.bytes b t
 |.flt b,u=>∃t,u=Value.float b t
 |.ref a,u=>u=Value.ref a
 |.ty n,u=>u=Value.type n
abbrev Vals:List V->%[|6]->Prop:=Paired RelV
theorem Vals.length(r:Vals xs us):xs.length=us.length:=zBV r
theorem Vals.get:∀{xs:List V}{us:%[|6]}{i:Nat}{x:V},Vals xs us->xs[i]? = some x->∃u,us[i]? = some u/\RelV x u
 |_,_,_,_,.nil,e=>by simp at e
 |_,_,0,_,.cons r _,e=>by simp at e;subst e;exact#[_,rfl,r]
 |_,_,i+1,x,.cons _ t,e=>by
  obtain⟨u,h1,h2⟩:=Vals.get (i:=i) (x:=x) t (by simpa using e);exact#[u,by simpa using h1,h2]
theorem Vals.set{x:V}{u:Value}(r:RelV x u):∀{xs:List V}{us:%[|6]}(i:Nat),Vals xs us->Vals (xs.set i x) (us.set i u)
 |_,_,_,.nil=>.nil
 |_,_,0,.cons _ t=>.cons r t
 |_,_,i+1,.cons q t=>.cons q (Vals.set r i t)
theorem Vals.append:∀{xs ys:List V}{us ws:%[|6]},Vals xs us->Vals ys ws->Vals (xs++ys) (us++ws)
 |_,_,_,_,.nil,s=>s
 |_,_,_,_,.cons r t,s=>.cons r (Vals.append t s)
theorem Vals.take:∀{xs:List V}{us:%[|6]}(n:Nat),Vals xs us->Vals (xs.take n) (us.take n)
 |_,_,0,_=>.nil
 |_,_,_+1,.nil=>.nil
 |_,_,n+1,.cons r t=>.cons r (Vals.take n t)
theorem Vals.drop:∀{xs:List V}{us:%[|6]}(n:Nat),Vals xs us->Vals (xs.drop n) (us.drop n)
 |_,_,0,r=>r
 |_,_,_+1,.nil=>.nil
 |_,_,n+1,.cons _ t=>Vals.drop n t
def A1N:Option V->%[|14]->Prop
 |some v,some u=>RelV v u
 |none,none=>True
 |_,_=>False
def KV{κ:Type}:List (κ×V)->List (κ×Value)->Prop:=Paired λ(p:κ×V)(q:κ×Value)=>p.1=q.1/\RelV p.2 q.2
def kV:DO->V
 |.inl i=>.int i
 |.inr x=>.str x
inductive HO where
 |lst (xs:List V)
 |tup (xs:List V)
 |dK (kvs:List (DO×V))|dT (kvs:List (List DO×V))
 |set (S:Int->Bool) (n:Nat)
 |ins (C dx:Addr) (fs:List (Str×V))
 |own (x:Addr)
 |xd (fs:List (Str×V))
 |met (f x:Addr)
 |rng (lo hi:Int)
 |frz (o:Obj) (u:HO)
 |tbl (ps:Array Value)
 |ext (φ:Heap->Prop)
abbrev Hp:=Addr->Option HO
def upd(H:Hp)(a:Addr)(o:HO):Hp:=λb=>if b=a then some o else H b
theorem A0A:upd H a o a=some o:=by unfold upd;rw[if_pos rfl]
theorem Af(h:b≠a):upd H a o b=H b:=by unfold upd;rw[if_neg h]
theorem AV{H:Hp}{a b:Addr}{o u:HO}(h:H a=some o)(h':H b=some u)(d:o≠u):a≠b:=by
 intro e;subst e;rw[h]at h';exact d (zAH h')
theorem Ai{H:Hp}{a b:Addr}{o:HO}(h:H a=some o)(h':H b=none):a≠b:=by
 intro e;subst e;rw[h]at h';cases h'
section
variable (P:Program)(w:World)
def A0Q(H:Hp)(h:Heap)(a:Addr):HO->Prop
 |.lst xs=>xs.length<=sizeLine/\Cd λ(its:%[|6])(n:Nat)=>Vals xs its/\h.get? a=some {cls:=.type "list",data:=.seq its.toArray n}
 |.tup xs=>xs.length<=sizeLine/\∃its:%[|6],Vals xs its/\IsTup h a its.toArray
 |.dK kvs=>kvs.length<=sizeLine/\(a == sysModules)=false/\∃vs,KV kvs vs/\h.DictOf (CG P w) a vs
 | .dT kvs=>kvs.length<=sizeLine/\(a == sysModules)=false/\∃xs:List (List DO×Addr×Value),
   Paired (λ(p:List DO×V)(q:List DO×Addr×Value)=>p.1=q.1/\H q.2.1=some (.tup (p.1.map kV))/\RelV p.2 q.2.2) kvs xs/\
   Fb λo es ep=>Il (h.get? a=some o) (o.ExactDict) (o.data=.dict es ep) (es.toList=xs.map (entryOfKey (tupleKind (CG P w)))) ((xs.map (·.1)).Nodup)
 |.set S n=>h.SetOf (intKind P w) a S n
 | .ins C dx fs=>H dx=some (.own a)/\fs.length<=1000/\dx≠a/\h.get? a=some (PySem.W.instObj C dx)/\
   ∃mA,BV (h.Ns1 dx mA) (∀f,A1N (fs.lookup f) (mA f)) (PySem.Within mA (fs.map (·.1)))
 |.own _=>∃o,h.get? a=some o
 |.xd fs=>∃mA,h.Ns1 a mA/\∀f,A1N (fs.lookup f) (mA f)
 |.rng lo hi=>Fb λt u v=>h.get? a=some {cls:=.type "range",data:=.fields #v[.int lo t,.int hi u,.int 1 v]}
 |.frz o u=>h.get? a=some o/\A0Q H h a u
 |.tbl ps=>h.get? a=some {cls:=.none,data:=.fields ps}
 |.met f x=>h.get? a=some (PySem.W.methodObj (.ref f) (.ref x))
 |.ext φ=>φ h/\(∃o,h.get? a=some o)/\∀h1 h2:Heap,φ h1->(∀o,h1.get? a=some o->h2.get? a=some o)->φ h2
def HOk(H:Hp)(h:Heap):Prop:=∀a o,H a=some o->A0Q P w H h a o
end
section
variable {P:Program}{w:World}{H H':Hp}{h h':Heap}{a:Addr}{o:HO}
theorem A0Q.lt(x:A0Q P w H h a o):a<h.objs.size:=by
 cases o with
 |lst xs=>obtain⟨_,_,_,_,e⟩:=x;exact zAF e
 |tup xs=>obtain⟨_,_,_,p⟩:=x;exact p.lt
 |dK kvs=>obtain⟨_,_,_,_,o,_,_,e,_⟩:=x;exact zAF e
 |dT kvs=>obtain⟨_,_,_,_,o,_,_,e,_⟩:=x;exact zAF e
 |set S n=>obtain⟨o,_,_,_,e,_⟩:=x;exact zAF e
 |ins C dx fs=>obtain⟨_,_,_,e,_⟩:=x;exact zAF e
 |own y=>obtain⟨_,e⟩:=x;exact zAF e
 |xd fs=>obtain⟨_,⟨_,_,_,e,_⟩,_⟩:=x;exact zAF e
 |rng lo hi=>obtain⟨_,_,_,e⟩:=x;exact zAF e
 |frz ob u=>obtain⟨e,_⟩:=x;exact zAF e
 |tbl ps=>exact zAF (show h.get? a=some _ from x)
 |met f y=>exact zAF (show h.get? a=some _ from x)
 |ext φ=>obtain⟨_,⟨_,e⟩,_⟩:=x;exact zAF e
theorem Paired.mapP{α β:Type}{F G:α->β->Prop}:∀{l₁:List α}{l₂:List β},Paired F l₁ l₂->(∀a b,F a b->G a b)->Paired G l₁ l₂
 |_,_,.nil,_=>.nil
 |_,_,.cons r t,f=>.cons (f _ _ r) (Paired.mapP t f)
theorem A0Q.stay(x:A0Q P w H h a o)(k:∀b u,(b=a\/H b=some (.own a))->h.get? b=some u->h'.get? b=some u)(ho:∀b,H b=some (.own a)->H' b=some (.own a))(ht:∀b xs,H b=some (.tup xs)->H' b=some (.tup xs)):A0Q P w H' h' a o:=by
 induction o with
 |lst xs=>obtain⟨z,its,n,r,e⟩:=x;exact#[z,its,n,r,k _ _ (.inl rfl) e]
 |tup xs=>obtain⟨z,its,r,ob,e,c⟩:=x;exact#[z,its,r,ob,k _ _ (.inl rfl) e,c]
 |dK kvs=>obtain⟨z,y,vs,r,ob,es,ep,e,c⟩:=x;exact#[z,y,vs,r,ob,es,ep,k _ _ (.inl rfl) e,c]
 |dT kvs=>
  obtain⟨z,y,xs,r,ob,es,ep,e,c1,c2,c3,c4⟩:=x;exact#[z,y,xs,Paired.mapP r λp q z=>#[z.1,ht _ _ z.2.1,z.2.2],ob,es,ep,k _ _ (.inl rfl) e,c1,c2,c3,c4]
 |set S n=>obtain⟨ob,es,ep,t,e,c⟩:=x;exact#[ob,es,ep,t,k _ _ (.inl rfl) e,c]
 |ins C dx fs=>
  obtain⟨d,z,ne,e,mA,⟨od,es,ep,e2,c⟩,r,r2⟩:=x;exact#[ho _ d,z,ne,k _ _ (.inl rfl) e,mA,#[od,es,ep,k _ _ (.inr d) e2,c],r,r2]
 |own y=>obtain⟨ob,e⟩:=x;exact#[ob,k _ _ (.inl rfl) e]
 |xd fs=>obtain⟨mA,⟨od,es,ep,e,c⟩,r⟩:=x;exact#[mA,#[od,es,ep,k _ _ (.inl rfl) e,c],r]
 |rng lo hi=>obtain⟨t,u,v,e⟩:=x;exact#[t,u,v,k _ _ (.inl rfl) e]
 |frz ob u ih=>obtain⟨e,q⟩:=x;exact#[k _ _ (.inl rfl) e,ih q]
 |tbl ps=>
  have e:h.get? a=some {cls:=.none,data:=.fields ps}:=x;show h'.get? a=some {cls:=.none,data:=.fields ps};exact k a _ (.inl rfl) e
 |met f y=>
  have e:h.get? a=some (PySem.W.methodObj (.ref f) (.ref y)):=x;show h'.get? a=some (PySem.W.methodObj (.ref f) (.ref y));exact k a _ (.inl rfl) e
 |ext φ=>obtain⟨p,⟨o,e⟩,st⟩:=x;exact#[st _ _ p λo q=>k _ _ (.inl rfl) q,#[o,k _ _ (.inl rfl) e],st]
theorem HOk.lt(x:HOk P w H h)(e:H a=some o):a<h.objs.size:=(x a o e).lt
theorem HOk.fresh(x:HOk P w H h)(e:h.objs.size<=a):H a=none:=by
 cases q:H a with
 |none=>rfl
 |some u=>exact absurd (zAN (x.lt q) e) (zBN _)
theorem HOk.kept(x:HOk P w H h)(k:∀b u,h.get? b=some u->h'.get? b=some u):HOk P w H h':=λa o e=>
 (x a o e).stay (λb u _ q=>k b u q) (λ_ q=>q) λ_ _ q=>q
theorem HOk.laid(x:HOk P w H h)(k:∀b u,h.get? b=some u->h'.get? b=some u)(hp:h.objs.size<=a)(new:A0Q P w (upd H a o) h' a o):HOk P w (upd H a o) h':=λb u e=>by
 have hn:=x.fresh hp;by_cases hb:b=a
 ·subst hb;rw[A0A]at e;cases e;exact new
 ·rw[Af hb]at e;exact (x b u e).stay (λc v _ q=>k c v q) (λc q=>by rw[Af (Ai q hn)];exact q) λc xs q=>by rw[Af (Ai q hn)];exact q
end
def Rd(H:Hp)(a:Addr)(u:HO):Prop:=H a=some u\/∃o,H a=some (.frz o u)
theorem Rd.ok(r:Rd H a u)(x:HOk P w H h):A0Q P w H h a u:=by
 rcases r with r|⟨o,r⟩
 ·exact x a u r
 ·obtain⟨_,q⟩:=x a _ r;exact q
def Zz:Option HO->Prop
 |some (.lst _)=>True
 |some (.dK _)=>True
 |some (.dT _)=>True
 |some (.set _ _)=>True
 |some (.ins _ _ _)=>True
 |some (.ext _)=>True
 |_=>False
section
variable {P:Program}{w:World}{H:Hp}{h h':Heap}{x e:Addr}{o':HO}
theorem HOk.write(ok:HOk P w H h)(mu:Zz (H x))(he:e=x\/H e=some (.own x))(k:∀b u,b≠e->h.get? b=some u->h'.get? b=some u)(heo:∃u,h'.get? e=some u)(new:A0Q P w (upd H x o') h' x o'):HOk P w (upd H x o') h':=λb u q=>by
 have nown:∀c y,H c=some (.own y)->c≠x:=λc y r z=>by subst z;rw[r]at mu;exact mu
 have ntup:∀c xs,H c=some (.tup xs)->c≠x:=λc xs r z=>by subst z;rw[r]at mu;exact mu
 by_cases hb:b=x
 ·subst hb;rw[A0A]at q;cases q;exact new
 ·rw[Af hb]at q;by_cases hbe:b=e
  ·have q':H b=some (.own x):=by
    rcases he with z|z
    ·exact absurd (hbe.trans z) hb
    ·rw[hbe];exact z
   rw[q]at q';cases q';obtain⟨v,hv⟩:=heo;exact#[v,by rw[hbe];exact hv]
  ·refine (ok b u q).stay (λc v hc r=>k c v ?_ r) (λc r=>by rw[Af (nown c b r)];exact r) λc xs r=>by rw[Af (ntup c xs r)];exact r
   rcases hc with rfl|hc
   ·exact hbe
   ·rintro rfl;rcases he with z|z
    ·exact nown c b hc z
    ·rw[hc]at z;cases z;exact hb rfl
end
structure Un(fs ex:%[|3])(H H':Hp)(h h':Heap):Prop where
 keep:∀b o,h.get? b=some o->H b=none->b∉fs->b∉ex->h'.get? b=some o
 slot:∀b o,h.get? b=some o->H b=none->b∈fs->b∉ex->∃sl,h'.get? b=some {o with slots:=sl}
 free:∀b o,h.get? b=some o->H b=none->b∉ex->H' b=none
 there:∀b o,h.get? b=some o->b∉ex->∃o',h'.get? b=some o'
 tups:∀b xs,H b=some (.tup xs)->H' b=some (.tup xs)
 frzs:∀b o u,H b=some (.frz o u)->H' b=some (.frz o u)
 tbls:∀b ps,H b=some (.tbl ps)->∃more,H' b=some (.tbl (ps++more))
section
variable {fs fs' ex ex':%[|3]}{H H1 H2:Hp}{h h1 h2 h':Heap}{a x e:Addr}{o:HO}
theorem Un.any(u:Un fs ex H H1 h h1)(q:h.get? b=some ob)(n:H b=none)(hx:b∉ex):∃sl,h1.get? b=some {ob with slots:=sl}:=by
 by_cases hb:b∈fs
 ·exact u.slot b ob q n hb hx
 ·exact#[ob.slots,u.keep b ob q n hb hx]
theorem Un.kept(k:∀b u,h.get? b=some u->h'.get? b=some u):Un fs ex H H h h':=
 #[λb ob q _ _ _=>k b ob q,λb ob q _ _ _=>#[ob.slots,k b ob q],λ_ _ _ n _=>n,λb ob q _=>#[ob,k b ob q],λ_ _ q=>q,λ_ _ _ q=>q,λ_ ps q=>#[#v[],by rw[q];simp]]
theorem Un.refl:Un fs ex H H h h:=Un.kept λ_ _ q=>q
theorem Un.laid(k:∀b u,h.get? b=some u->h'.get? b=some u)(hp:h.objs.size<=a)(hn:H a=none):Un fs ex H (upd H a o) h h' where
 keep:=λb u q _ _ _=>k b u q
 slot:=λb u q _ _ _=>#[u.slots,k b u q]
 free:=λb u q n _=>by rw[Af (zAI (zAN (zAF q) hp))];exact n
 there:=λb u q _=>#[u,k b u q]
 tups:=λb xs q=>by rw[Af (Ai q hn)];exact q
 frzs:=λb u xs q=>by rw[Af (Ai q hn)];exact q
 tbls:=λb ps q=>#[#v[],by rw[Af (Ai q hn),q];simp]
theorem Un.write(mu:Zz (H x))(he:e=x\/H e=some (.own x))(k:∀b u,b≠e->h.get? b=some u->h'.get? b=some u)(heo:∃u,h'.get? e=some u):Un fs ex H (upd H x o) h h':=by
 have hx:∀b,H b=none->b≠x:=λb n z=>by subst z;rw[n]at mu;exact mu
 have hb:∀b,H b=none->b≠e:=λb n z=>by
  subst z;rcases he with r|r
  ·exact hx b n r
  ·rw[n]at r;cases r
 have hm:∀b u,H b=some u->¬Zz (some u)->b≠x:=λb u q nm z=>by subst z;rw[q]at mu;exact nm mu
 refine#[λb u q n _ _=>k b u (hb b n) q,λb u q n _ _=>#[u.slots,k b u (hb b n) q],λb u q n _=>by rw[Af (hx b n)];exact n,λb u q _=>?_,
  λb xs q=>by rw[Af (hm b _ q λz=>z)];exact q,λb u xs q=>by rw[Af (hm b _ q λz=>z)];exact q,λb ps q=>#[#v[],by rw[Af (hm b _ q λz=>z),q];simp]]
 by_cases hbe:b=e
 ·subst hbe;exact heo
 ·exact#[u,k b u hbe q]
theorem Un.mono(u:Un fs ex H H1 h h1)(hs:∀b∈fs,b∈fs')(hx:∀b∈ex,b∈ex'):Un fs' ex' H H1 h h1:=
 #[λb ob q n hb he=>u.keep b ob q n (λz=>hb (hs b z)) λz=>he (hx b z),λ_ _ q n _ he=>u.any q n λz=>he (hx _ z),λb ob q n he=>u.free b ob q n λz=>he (hx b z),λb ob q he=>u.there b ob q λz=>he (hx b z),u.tups,u.frzs,u.tbls]
end
def aV(h:Heap)(H:Hp):List Addr:=(List.range h.objs.size).filter λa=>(H a).isSome
def JU(h:Heap)(H:Hp):Heap:=PySem.W.hideAll h (aV h H)
theorem Rg(h:Heap)(H:Hp):(JU h H).objs.size=h.objs.size:=PySem.W.hideAll_size _ _
theorem R5(e:h.get? b=some o)(n:H b=none):(JU h H).get? b=some o:=
 PySem.W.hideAll_get _ e λhm=>by
  have q:(H b).isSome=true:=(List.mem_filter.mp hm).2;rw[n]at q;simp at q
theorem Wh(e:(JU h H).get? b=some o):h.get? b=some o/\H b=none:=by
 have e':h.get? b=some o:=PySem.W.of_hideAll (aV h H) e;refine#[e',?_]
 cases q:H b with
 |none=>rfl
 |some x=>
  have hm:b∈aV h H:=List.mem_filter.mpr #[List.mem_range.mpr (zAF e'),by simp[q]];have z:(JU h H).get? b=none:=PySem.W.hideAll_none (aV h H) hm;rw[z]at e;cases e
structure Mod(K:PySem.W.Frag)(mg:Str->%[|14])(base:Heap):Prop where
 kin:K.In base
 glob:base.Ns mainGlobals mg
 blt:∃mb,base.Ns builtinsNs mb/\∀x:Str,x≠"__name__"->mb x=bootBuiltins x
 nolimit:base.NoLimit
structure Cx where
 prog:Program
 w:World
 K:PySem.W.Frag
 mg:Str->%[|14]
 base:Heap
 A:Around
 N:List Str
 s₀:Shared
 H₀:Hp
 env:Env
 outer:List Env
 stack:List Env
 ex:%[|3]
 fn:Str->Bool
 calm:Bool
 pn:%[|19]
 xe:Value->Shared->Prop
def GU(l:List Env):List Addr:=l.filterMap (·.frame)
abbrev Cx.fs(X:Cx):List Addr:=GU X.outer
def bX(sc:Scope)(x:Str):Prop:=sc.names.lookup x=some .local\/sc.names.lookup x=some .cell\/sc.names.lookup x=some .free
def UD(sc:Scope)(x:Str):Prop:=sc.names.lookup x=some .local\/sc.names.lookup x=some .cell
def br(env:Env)(h:Heap)(m:Str->%[|14])(x:Str)(u:Value):Prop:=
 (env.kindOf x=some .local/\m x=some u)\/((env.kindOf x=some .cell\/env.kindOf x=some .free)/\∃c,env.cells.lookup x=some c/\h.IsCell c (some u))
structure Cx.Ok(X:Cx):Prop where
 mod:Mod X.K X.mg X.base
 kind:X.env.scope.kind=.function
 glob:X.env.globals=mainGlobals
 blt:X.env.builtins=builtinsNs
 above:X.s₀.heap.objs.size<=X.env.locals
 inj:∀x y c,X.env.cells.lookup x=some c->X.env.cells.lookup y=some c->x=y
 has:∀x,(X.env.kindOf x=some .cell\/X.env.kindOf x=some .free)->∃c,X.env.cells.lookup x=some c
 cab:∀x c,X.fn x=true->X.env.cells.lookup x=some c->X.s₀.heap.objs.size<=c
 hd:X.calm=true->X.A.handled=none
 frames:X.A.frames=some X.stack
 stk:X.stack=X.outer\/(X.stack=X.env::X.outer/\X.env.frame=some X.env.locals)
 exf:∀b∈X.ex,b≠X.env.locals/\∀x c,X.env.cells.lookup x=some c->c≠b
 bs:∀b o,X.base.get? b=some o->X.s₀.heap.get? b=some o/\X.H₀ b=none
 bsz:X.base.objs.size<=X.s₀.heap.objs.size
 noex:∀b o,X.base.get? b=some o->b∉X.ex
 exfs:∀b∈X.ex,b∉X.fs
 funs:X.s₀.heap.FunFrames X.base X.outer
 frf:∀b∈X.fs,X.H₀ b=none
structure Inv(X:Cx)(pins:%[|19])(σ:List (Option V))(H:Hp)(s:Shared):Prop where
 ok:X.Ok
 os:s.os=X.s₀.os
 bare:AllBare s.gens
 base:Un X.fs X.ex X.H₀ H X.s₀.heap s.heap
 loc:∃m,s.heap.Ns X.env.locals m/\∀(i:Nat)(x:Str)(v:V),X.N[i]? = some x->σ[i]? = some (some v)->bX X.env.scope x->∃u,RelV v u/\br X.env s.heap m x u
 cell:∀x c,X.env.cells.lookup x=some c->∃v,s.heap.IsCell c v
 free:H X.env.locals=none
 freeC:∀x c,X.env.cells.lookup x=some c->H c=none
 pin:∀p∈X.pn++pins,s.heap.get? p.1=some p.2/\H p.1=none/\p.1≠X.env.locals/\p.1∉X.fs/\∀v,p.2.data≠.cell v
 hok:HOk X.prog X.w H s.heap
 len:σ.length=X.N.length
section
variable {X:Cx}{pins:%[|19]}{σ:List (Option V)}{H H':Hp}{s:Shared}{h':Heap}
theorem Cx.Ok.nofr(ok:X.Ok)(e:X.base.get? b=some o):b∉X.fs:=λhb=>by
 have:=(ok.funs.mem hb).1;rw[e]at this;cases this
theorem Inv.bs(I:%[|4]):∀b o,X.base.get? b=some o->s.heap.get? b=some o/\H b=none:=λb o e=>
 #[I.base.keep b o (I.ok.bs b o e).1 (I.ok.bs b o e).2 (I.ok.nofr e) (I.ok.noex b o e),I.base.free b o (I.ok.bs b o e).1 (I.ok.bs b o e).2 (I.ok.noex b o e)]
theorem Inv.bk(I:%[|4]):∀b o,X.base.get? b=some o->s.heap.get? b=some o:=λb o e=>(I.bs b o e).1
theorem Inv.mod(I:%[|4]):Mod X.K X.mg X.base:=I.ok.mod
theorem Inv.kIn(I:%[|4]):X.K.In s.heap:=I.ok.mod.kin.keeps I.bk
theorem Inv.lt(I:%[|4]):X.env.locals<s.heap.objs.size:=let ⟨_,hn,_⟩:=I.loc;hn.lt
theorem Inv.sz(I:%[|4]):X.s₀.heap.objs.size<=s.heap.objs.size:=zAC I.ok.above (zA7 I.lt)
theorem Inv.nofs(I:%[|4])(h:s.heap.objs.size<=a):a∉X.fs:=λhb=>by
 obtain⟨_,o,ho,_⟩:=I.ok.funs.mem hb;exact absurd (zAN (zAF ho) (zAC I.sz h)) (zBN _)
theorem Inv.cne(I:%[|4]):∀x c,X.env.cells.lookup x=some c->c≠X.env.locals:=λx c e z=>by
 obtain⟨v,o,ho,hd⟩:=I.cell x c e;obtain⟨m,⟨o',es,ep,gN,hd',_⟩,_⟩:=I.loc;rw[z,gN]at ho;cases ho;rw[hd']at hd;cases hd
theorem Inv.funs(I:%[|4]):s.heap.FunFrames X.base X.outer:=by
 have all:∀(l:List Env),(∀b∈GU l,b∈X.fs)->X.s₀.heap.FunFrames X.base l->s.heap.FunFrames X.base l:=by
  intro l
  induction l with
  |nil=>intro _ _;trivial
  |cons env r ih=>
   intro hs hl;obtain⟨hk,⟨L,o,hf,hn,ho,hd⟩,hr⟩:=hl;have hL:L∈X.fs:=hs L (by unfold GU;rw[List.filterMap_cons,hf];exact List.mem_cons_self);obtain⟨sl,e⟩:=I.base.slot L o ho (I.ok.frf L hL) hL λz=>I.ok.exfs L z hL
   exact#[hk,#[L,_,hf,hn,e,hd],ih (λb hb=>hs b (by unfold GU;rw[List.filterMap_cons,hf];exact List.mem_cons_of_mem _ hb)) hr]
 exact all X.outer (λ_ hb=>hb) I.ok.funs
theorem Inv.stack(I:%[|4]):s.heap.FunFrames X.base X.stack:=by
 rcases I.ok.stk with e|⟨e,hf⟩
 ·rw[e];exact I.funs
 ·rw[e];obtain⟨m,hn,_⟩:=I.loc;refine .cons (by rw[I.ok.kind];decide) hf hn ?_ I.funs;exact Heap.get?_none_of_le (zAC I.ok.bsz I.ok.above)
theorem Inv.stkSub(I:%[|4]):∀b∈GU X.stack,b∈X.env.locals::X.fs:=λb hb=>by
 rcases I.ok.stk with e|⟨e,hf⟩
 ·rw[e]at hb;exact List.mem_cons_of_mem _ hb
 ·rw[e]at hb;unfold GU at hb;rw[List.filterMap_cons,hf]at hb;exact hb
theorem Inv.stkFree(I:%[|4]):∀b∈GU X.stack,H b=none:=λb hb=>by
 rcases List.mem_cons.mp (I.stkSub b hb)with e|hb
 ·rw[e];exact I.free
 ·obtain⟨_,o,ho,_⟩:=I.ok.funs.mem hb;exact I.base.free b o ho (I.ok.frf b hb) λz=>I.ok.exfs b z hb
theorem Inv.step{t':Nat}{ch:%[|3]}(I:%[|4])(iI:∀b∈ch,(b∈X.ex\/X.s₀.heap.objs.size<=b)/\b≠X.env.locals/\(∀x c,X.env.cells.lookup x=some c->c≠b)/\∀p∈X.pn++pins,p.1≠b)(keep:∀b o,b≠X.env.locals->b∉X.fs->b∉ch->s.heap.get? b=some o->H b=none->h'.get? b=some o)(slot:∀b o,b≠X.env.locals->b∈X.fs->b∉ch->s.heap.get? b=some o->H b=none->∃sl,h'.get? b=some {o with slots:=sl})(free:∀b o,b∉ch->s.heap.get? b=some o->H b=none->H' b=none)(there:∀b o,b∉ch->s.heap.get? b=some o->∃o',h'.get? b=some o')(tups:∀b xs,H b=some (.tup xs)->H' b=some (.tup xs))(frzs:∀b o u,H b=some (.frz o u)->H' b=some (.frz o u))(tbls:∀b ps,H b=some (.tbl ps)->∃more,H' b=some (.tbl (ps++more)))(ns:∀m,s.heap.Ns X.env.locals m->h'.Ns X.env.locals m)(hok:HOk X.prog X.w H' h')(hg:AllBare g'):
  Inv X pins σ H' {s with heap:=h',gens:=g',drawn:=d',toks:=t' }:=by
 have neL:∀b o,X.s₀.heap.get? b=some o->b≠X.env.locals:=λb o e=>zAI (zAN (zAF e) I.ok.above)
 have neC:∀b o,X.s₀.heap.get? b=some o->b∉X.ex->b∉ch:=λb o e hx hb=>by
  rcases (iI b hb).1 with z|z
  ·exact hx z
  ·exact absurd (zAN (zAF e) z) (zBN _)
 have ke:∀x c,X.env.cells.lookup x=some c->∀v,s.heap.IsCell c v->h'.IsCell c v:=λx c e v ⟨o,ho,hd⟩=>by
  have nch:c∉ch:=λz=>(iI c z).2.2.1 x c e rfl
  by_cases hc:c∈X.fs
  ·obtain⟨sl,q⟩:=slot c o (I.cne x c e) hc nch ho (I.freeC x c e);exact#[_,q,hd]
  ·exact#[o,keep c o (I.cne x c e) hc nch ho (I.freeC x c e),hd]
 refine#[I.ok,I.os,hg,#[λb o e n hb hx=>?_,λb o e n hb hx=>?_,λb o e n hx=>?_,λb o e hx=>?_,λb xs e=>tups b xs (I.base.tups b xs e),λb o xs e=>frzs b o xs (I.base.frzs b o xs e),λb ps e=>?_],?_,λx c e=>?_,?_,λx c e=>?_,λp hp=>?_,hok,I.len]
 ·exact keep b o (neL b o e) hb (neC b o e hx) (I.base.keep b o e n hb hx) (I.base.free b o e n hx)
 ·obtain⟨sl,e1⟩:=I.base.slot b o e n hb hx;obtain⟨sl',e2⟩:=slot b _ (neL b o e) hb (neC b o e hx) e1 (I.base.free b o e n hx);exact#[sl',e2]
 ·obtain⟨o',e1⟩:=I.base.there b o e hx;exact free b o' (neC b o e hx) e1 (I.base.free b o e n hx)
 ·obtain⟨o',e1⟩:=I.base.there b o e hx;exact there b o' (neC b o e hx) e1
 ·obtain⟨m1,e1⟩:=I.base.tbls b ps e;obtain⟨m2,e2⟩:=tbls b _ e1;exact#[m1++m2,by rw[e2,Array.append_assoc]]
 ·obtain⟨m,hn,hl⟩:=I.loc;refine#[m,ns m hn,λi x v e1 e2 e3=>?_];obtain⟨u,r,l⟩:=hl i x v e1 e2 e3;refine#[u,r,?_];rcases l with l|⟨k,c,e,z⟩
  ·exact .inl l
  ·exact .inr #[k,c,e,ke x c e _ z]
 ·obtain⟨v,z⟩:=I.cell x c e;exact#[v,ke x c e v z]
 ·obtain⟨m,⟨o,_,_,ho,_⟩,_⟩:=I.loc;exact free _ o (λz=>(iI _ z).2.1 rfl) ho I.free
 ·obtain⟨v,o,ho,hd⟩:=I.cell x c e;exact free c o (λz=>(iI c z).2.2.1 x c e rfl) ho (I.freeC x c e)
 ·obtain⟨e,n,ne,nf,d⟩:=I.pin p hp;have nch:p.1∉ch:=λz=>(iI p.1 z).2.2.2 p hp rfl
  exact#[keep p.1 p.2 ne nf nch e n,free p.1 p.2 nch e n,ne,nf,d]
theorem Inv.un(I:%[|4])(u:Un X.fs [] H H' s.heap h')(hok:HOk X.prog X.w H' h'):%[|16] H' {s with heap:=h',toks:=t' }:=by
 obtain⟨m,⟨o,es,ep,ho,r⟩,_⟩:=id I.loc;obtain⟨sl,hL⟩:=u.any ho I.free %[|1]
 exact I.step (g':=s.gens) (d':=s.drawn) (ch:=[]) (λ_ z=>nomatch z) (λb o _ hb _ e n=>u.keep b o e n hb %[|1]) (λb o _ hb _ e n=>u.slot b o e n hb %[|1]) (λb o _ e n=>u.free b o e n %[|1]) (λb o _ e=>u.there b o e %[|1]) u.tups u.frzs u.tbls (λm' hm=>by
  obtain⟨o',dH,ep',gN,r'⟩:=hm
  rw[ho]at gN;cases gN
  exact#[_,dH,ep',hL,r']) hok I.bare
theorem Inv.call(I:%[|4])(u:Un (GU X.stack) ch H H' s.heap h')(hok:HOk X.prog X.w H' h')(hg:AllBare g')(iI:∀b∈ch,(b∈X.ex\/X.s₀.heap.objs.size<=b)/\b≠X.env.locals/\(∀x c,X.env.cells.lookup x=some c->c≠b)/\∀p∈X.pn++pins,p.1≠b):
  Inv X pins σ H' {s with heap:=h',gens:=g',drawn:=d',toks:=t' }:=by
 obtain⟨m,⟨o,es,ep,ho,r⟩,_⟩:=id I.loc;obtain⟨sl,hL⟩:=u.any ho I.free λz=>(iI _ z).2.1 rfl
 exact I.step (ch:=ch) iI (λb o hL hb hc e n=>u.keep b o e n (λz=>(List.mem_cons.mp (I.stkSub b z)).elim hL hb) hc) (λb o _ _ hc e n=>u.any e n hc) (λb o hc e n=>u.free b o e n hc) (λb o hc e=>u.there b o e hc) u.tups u.frzs u.tbls (λm' hm=>by
  obtain⟨o',dH,ep',gN,r'⟩:=hm
  rw[ho]at gN;cases gN
  exact#[_,dH,ep',hL,r']) hok hg
theorem Inv.turned(I:%[|4])(k:∀b o,b≠it->s.heap.get? b=some o->h'.get? b=some o)(hn:H it=none)(hL:it≠X.env.locals)(h1:it∈X.ex\/X.s₀.heap.objs.size<=it)(h2:∀x c,X.env.cells.lookup x=some c->c≠it)(h3:∀p∈X.pn++pins,p.1≠it):%[|16] H {s with heap:=h',toks:=t' }:=by
 have nit:∀b u,H b=some u->b≠it:=λb u e z=>by rw[z,hn]at e;cases e
 refine I.step (g':=s.gens) (d':=s.drawn) (ch:=[it]) (λb hb=>?_) (λb o _ _ hc e _=>k b o (λz=>hc (by simp[z])) e) (λb o _ _ hc e _=>#[o.slots,k b o (λz=>hc (by simp[z])) e]) (λ_ _ _ _ n=>n)
  (λb o hc e=>#[o,k b o (λz=>hc (by simp[z])) e]) (λ_ _ e=>e) (λ_ _ _ e=>e) (λb ps e=>#[#v[],by rw[e];simp]) (λm hm=>?_) (λb u e=>?_) I.bare
 ·have e:b=it:=by simpa using hb
  subst e;exact#[h1,hL,h2,h3]
 ·obtain⟨o,es,ep,ho,r⟩:=hm;exact#[o,es,ep,k _ o (zB hL) ho,r]
 ·refine (I.hok b u e).stay (λc v hc q=>k c v ?_ q) (λ_ q=>q) λ_ _ q=>q
  rcases hc with z|z
  ·rw[z];exact nit b u e
  ·exact nit c _ z
theorem Inv.tok(I:%[|4])(t:Nat):%[|16] H {s with toks:=t}:=I.un (h':=s.heap) (t':=t) Un.refl I.hok
theorem Inv.kept(I:%[|4])(k:∀b u,s.heap.get? b=some u->h'.get? b=some u):%[|16] H {s with heap:=h',toks:=t' }:=I.un (Un.kept k) (I.hok.kept k)
theorem Inv.laid(I:%[|4])(k:∀b u,s.heap.get? b=some u->h'.get? b=some u)(hp:s.heap.objs.size<=a)(new:A0Q X.prog X.w (upd H a o) h' a o):
  Inv X pins σ (upd H a o) {s with heap:=h',toks:=t' }:=I.un (Un.laid k hp (I.hok.fresh hp)) (I.hok.laid k hp new)
theorem Inv.write(I:%[|4])(mu:Zz (H x))(he:e=x\/H e=some (.own x))(k:∀b u,b≠e->s.heap.get? b=some u->h'.get? b=some u)(heo:∃u,h'.get? e=some u)(new:A0Q X.prog X.w (upd H x o) h' x o):%[|16] (upd H x o) {s with heap:=h',toks:=t' }:=I.un (Un.write mu he k heo) (I.hok.write mu he k heo new)
theorem Inv.pins_of(I:%[|4])(h:∀p∈kg,s.heap.get? p.1=some p.2/\H p.1=none/\p.1≠X.env.locals/\p.1∉X.fs/\∀v,p.2.data≠.cell v):Inv X kg σ H s:=
 #[I.ok,I.os,I.bare,I.base,I.loc,I.cell,I.free,I.freeC,λp hp=>(List.mem_append.mp hp).elim (λz=>I.pin p (zBM _ z)) (h p),I.hok,I.len]
theorem L3{N:List Str}(hN:N.Nodup){i j:Nat}{x:Str}(a:N[i]? = some x)(b:N[j]? = some x):i=j:=by
 obtain⟨h1,e1⟩:=List.getElem?_eq_some_iff.mp a;obtain⟨h2,e2⟩:=List.getElem?_eq_some_iff.mp b;exact (List.getElem_inj hN).mp (e1.trans e2.symm)
theorem F8(I:%[|4])(hN:X.N.Nodup)(hi:X.N[i]? = some x)(hx:UD X.env.scope x)(r:RelV v u)(h:∀s',Inv X pins (σ.set i (some v)) H s'->(∃a,Heap.SameBut a s.heap s'.heap/\(a=X.env.locals\/X.env.cells.lookup x=some a))->Q () s')(hf:X.fn x=true\/X.env.scope.names.lookup x=some .local:=by first|exact .inl rfl|exact .inr rfl|assumption):wpAny M A (storeName X.env x u) Q E s:=by
 obtain⟨m,hn,hl⟩:=id I.loc;have hcls:(X.env.scope.kind == .class || (X.env.scope.kind == .module && X.env.locals != X.env.globals))=false:=by rw[I.ok.kind];rfl
 have hiσ:i<σ.length:=by rw[I.len];exact %[hi|117].1
 have cne:=I.cne
 have ig:∀{a:Addr}{h':Heap},(∃o,s.heap.get? a=some o/\H a=none)->Heap.SameBut a s.heap h'->HOk X.prog X.w H h':=λ{a h'} ha hs b ob e=>by
  obtain⟨_,_,eZ⟩:=ha;refine (I.hok b ob e).stay (λc w' hc q=>(hs.2 c ?_).trans q) (λ_ q=>q) λ_ _ q=>q
  rintro rfl;rcases hc with rfl|hc
  ·rw[eZ]at e;cases e
  ·rw[eZ]at hc;cases hc
 rcases hx with hk|hk
 ·refine wpAny_storeName_local hk hn (λh' hn' hs=>?_) hcls;obtain⟨oL,_,_,hoL,_⟩:=id hn;refine h _ #[I.ok,I.os,I.bare,#[λb o e n hb hx=>?_,λb o e n hb hx=>?_,I.base.free,λb o e hx=>?_,I.base.tups,I.base.frzs,I.base.tbls],#[_,hn',λj y v' e1 e2 e3=>?_],λy c e=>?_,I.free,I.freeC,λp hp=>?_,ig #[oL,hoL,I.free] hs,by simpa using I.len] #[_,hs,.inl rfl]
  ·exact (hs.2 b (zAI (zAN (zAF e) I.ok.above))).trans (I.base.keep b o e n hb hx)
  ·obtain⟨sl,e1⟩:=I.base.slot b o e n hb hx;exact#[sl,(hs.2 b (zAI (zAN (zAF e) I.ok.above))).trans e1]
  ·obtain⟨o',e1⟩:=I.base.there b o e hx;exact#[o',(hs.2 b (zAI (zAN (zAF e) I.ok.above))).trans e1]
  ·by_cases hj:j=i
   ·subst hj;rw[hi]at e1;cases e1;rw[List.getElem?_set_self hiσ]at e2;cases e2;exact#[u,r,.inl #[hk,by simp]]
   ·rw[List.getElem?_set_ne (zB hj)]at e2;obtain⟨u',r',q⟩:=hl j y v' e1 e2 e3;refine#[u',r',?_];rcases q with⟨k,e⟩|⟨k,c,e,z⟩
    ·refine .inl #[k,?_];have:y≠x:=λe=>hj (L3 hN e1 (e ▸ hi))
     simp[this,e]
    ·exact .inr #[k,c,e,z.sameBut hs (cne y c e)]
  ·obtain⟨w',z⟩:=I.cell y c e;exact#[w',z.sameBut hs (cne y c e)]
  ·obtain⟨e,n,ne,nf,d⟩:=I.pin p hp;exact#[(hs.2 p.1 ne).trans e,n,ne,nf,d]
 ·have hfn:X.fn x=true:=by
   rcases hf with z|z
   ·exact z
   ·rw[z]at hk;cases hk
  obtain⟨c,hc⟩:=I.ok.has x (.inl hk);obtain⟨w',z⟩:=I.cell x c hc;refine wpAny_storeName_cell I.ok.kind hk hc z (λh' hc' hs=>?_);obtain⟨oc,hoc,hocd⟩:=id z;refine h {s with heap:=h' } #[I.ok,I.os,I.bare,#[λb o e n hb hx=>?_,λb o e n hb hx=>?_,I.base.free,λb o e hx=>?_,I.base.tups,I.base.frzs,I.base.tbls],#[m,hn.sameBut hs (zB (cne x c hc)),λj y v' e1 e2 e3=>?_],λy c' e=>?_,I.free,I.freeC,λp hp=>?_,ig #[oc,hoc,I.freeC x c hc] hs,by simpa using I.len] #[c,hs,.inr hc]
  ·exact (hs.2 b (zAI (zAN (zAF e) (I.ok.cab x c hfn hc)))).trans (I.base.keep b o e n hb hx)
  ·obtain⟨sl,e1⟩:=I.base.slot b o e n hb hx;exact#[sl,(hs.2 b (zAI (zAN (zAF e) (I.ok.cab x c hfn hc)))).trans e1]
  ·obtain⟨o',e1⟩:=I.base.there b o e hx;exact#[o',(hs.2 b (zAI (zAN (zAF e) (I.ok.cab x c hfn hc)))).trans e1]
  ·by_cases hj:j=i
   ·subst hj;rw[hi]at e1;cases e1;rw[List.getElem?_set_self hiσ]at e2;cases e2;exact#[u,r,.inr #[.inl hk,c,hc,hc']]
   ·rw[List.getElem?_set_ne (zB hj)]at e2;obtain⟨u',r',q⟩:=hl j y v' e1 e2 e3;refine#[u',r',?_];rcases q with q|⟨k,c',e,z'⟩
    ·exact .inl q
    ·refine .inr #[k,c',e,z'.sameBut hs ?_];rintro rfl;exact hj (L3 hN e1 (I.ok.inj _ _ _ e hc ▸ hi))
  ·by_cases hcc:c'=c
   ·subst hcc;exact#[_,hc']
   ·obtain⟨w2,z2⟩:=I.cell y c' e;exact#[w2,z2.sameBut hs hcc]
  ·obtain⟨e,n,ne,nf,d⟩:=I.pin p hp;refine#[(hs.2 p.1 ?_).trans e,n,ne,nf,d];intro q;rw[q,hoc]at e;have q':oc=p.2:=zAH e;exact d w' (by rw[<-q'];exact hocd)
theorem Hq(I:%[|4])(hN:X.N.Nodup)(hi:X.N[i]? = some x)(hx:UD X.env.scope x)(r:RelV v u)(h:∀s',Inv X pins (σ.set i (some v)) H s'->Q () s')(hf:X.fn x=true\/X.env.scope.names.lookup x=some .local:=by first|exact .inl rfl|exact .inr rfl|assumption):wpAny M A (storeName X.env x u) Q E s:=
 F8 I hN hi hx r (λs' I' _=>h s' I') hf
theorem Inv.call'(I:%[|4])(ho:s'.os=s.os)(u:Un (GU X.stack) ch H H' s.heap s'.heap)(hok:HOk X.prog X.w H' s'.heap)(hg:AllBare s'.gens)(iI:∀b∈ch,(b∈X.ex\/X.s₀.heap.objs.size<=b)/\b≠X.env.locals/\(∀x c,X.env.cells.lookup x=some c->c≠b)/\∀p∈X.pn++pins,p.1≠b):%[|16] H' s':=by
 obtain⟨h',g',d',t',o'⟩:=s';have e:o'=s.os:=ho;subst e;exact I.call (g':=g') (t':=t') (d':=d') u hok hg iI
end
abbrev XK:=Value->Option Addr->Hp->Prop
abbrev St:=List (Option V)
abbrev VK:=V->Hp->Prop
abbrev TE:=St->Hp->VK->Prop
abbrev TT:=St->Hp->(Bool->Hp->Prop)->Prop
abbrev TA:=St->Hp->(List V->Hp->Prop)->Prop
structure BJ where
 nx:St->Hp->Prop
 rt:VK
 bk:St->Hp->Prop:=λ_ _=>False
 ct:St->Hp->Prop:=λ_ _=>False
abbrev TS:=BJ->St->Hp->Prop
inductive EP(X:Cx)(pins:%[|19])(σ:St)(Q:VK)(u:Value)(s':Shared):Prop where
 |mk (v H') (_:%[|16] H' s') (_:RelV v u) (_:Q v H')
inductive TP(X:Cx)(pins:%[|19])(σ:St)(Q:Bool->Hp->Prop)(b:Bool)(s':Shared):Prop where
 |mk (H') (_:%[|16] H' s') (_:Q b H')
inductive AP(X:Cx)(pins:%[|19])(σ:St)(Q:List V->Hp->Prop)(us:%[|6])(s':Shared):Prop where
 |mk (vs H') (_:%[|16] H' s') (_:Vals vs us) (_:Q vs H')
def SP(X:Cx)(pins:%[|19])(D:BJ)(f:Flow)(s':Shared):Prop:=
 match f with
 |.next=>Cd λσ' H'=>Inv X pins σ' H' s'/\D.nx σ' H'
 |.brk=>Cd λσ' H'=>Inv X pins σ' H' s'/\D.bk σ' H'
 |.cont=>Cd λσ' H'=>Inv X pins σ' H' s'/\D.ct σ' H'
 |.ret u=>Fb λv σ' H'=>BV (Inv X pins σ' H' s') (RelV v u) (D.rt v H')
def PE(X:Cx)(e:Expr)(t:TE):Prop:=
 ∀pins s(σ:St)H Q,%[|4]->t σ H Q->%[|20] (eval e X.env) %[|51] X.xe s
def PT(X:Cx)(e:Expr)(t:TT):Prop:=
 ∀pins s(σ:St)H(Q:Bool->Hp->Prop),%[|4]->t σ H Q->%[|20] (isTrue e X.env (eval e X.env)) (TP X pins σ Q) X.xe s
def PW(X:Cx)(e:Expr)(t:TT):Prop:=
 ∀(fz:Sem Value)pins s(σ:St)H(Q:Bool->Hp->Prop),%[|4]->t σ H Q->%[|20] (isTrue e X.env fz) (TP X pins σ Q) X.xe s
theorem PW.pt(h:PW X e t):PT X e t:=h _
def PA(X:Cx)(es:%[|22])(t:TA):Prop:=
 ∀(pos:Pos)pins s(σ:St)H(Q:List V->Hp->Prop),%[|4]->t σ H Q->%[|20] (spliced %[|71]) (AP X pins σ Q) X.xe s
def PS(X:Cx)(st:Stmt)(t:TS):Prop:=
 ∀pins s(σ:St)H(D:BJ),%[|4]->t D σ H->%[|20] (exec st X.env) (SP X pins D) X.xe s
def PSs(X:Cx)(st:List Stmt)(t:TS):Prop:=
 ∀pins s(σ:St)H(D:BJ),%[|4]->t D σ H->%[|20] (execs st X.env) (SP X pins D) X.xe s
theorem AU{α:Type}{t:Sem α}{Q Q':α->Shared->Prop}(h:wpAny M A t Q E s)(hQ:∀a s,Q a s->Q' a s):wpAny M A t Q' E s:=wpAny_mono h hQ λ_ _ x=>x
section
variable {X:Cx}
def vB(k:Bool->Prop)(v:V):Prop:=V.rec (motive:=λ_=>Prop) False k %[|36] %[|36] %[|36] %[|36] %[|36] %[|36] v
def vI(k:Int->Prop)(v:V):Prop:=V.rec (motive:=λ_=>Prop) False %[|36] k %[|36] %[|36] %[|36] %[|36] %[|36] v
def vS(k:Str->Prop)(v:V):Prop:=V.rec (motive:=λ_=>Prop) False %[|36] %[|36] k %[|36] %[|36] %[|36] %[|36] v
def vR(k:Addr->Prop)(v:V):Prop:=V.rec (motive:=λ_=>Prop) False %[|36] %[|36] %[|36] %[|36] %[|36] k %[|36] v
def oV(k:V->Prop)(o:Option (Option V)):Prop:=Option.rec (motive:=λ_=>Prop) False (λo=>Option.rec (motive:=λ_=>Prop) False k o) o
def l0(k:Prop)(vs:List V):Prop:=List.rec (motive:=λ_=>Prop) k (λ_ _ _=>False) vs
def lC(k:V->List V->Prop)(vs:List V):Prop:=List.rec (motive:=λ_=>Prop) False (λv r _=>k v r) vs
def l1(k:V->Prop)(vs:List V):Prop:=lC (λv r=>l0 (k v) r) vs
theorem G9(h:vB k v):∃i,v=.bl i/\k i:=by cases v<;>first|exact#[_,rfl,h]|exact False.elim h
theorem FC(h:vI k v):∃i,v=.int i/\k i:=by cases v<;>first|exact#[_,rfl,h]|exact False.elim h
theorem Tl(h:vS k v):∃i,v=.str i/\k i:=by cases v<;>first|exact#[_,rfl,h]|exact False.elim h
theorem C8(h:vR k v):∃i,v=.ref i/\k i:=by cases v<;>first|exact#[_,rfl,h]|exact False.elim h
theorem aO(h:oV k o):∃v,o=some (some v)/\k v:=by
 cases o with
 |none=>exact False.elim h
 |some o=>
  cases o with
  |none=>exact False.elim h
  |some v=>exact#[v,rfl,h]
theorem Xm(h:l0 k vs):vs=[]/\k:=by
 cases vs with
 |nil=>exact#[rfl,h]
 |cons v r=>exact False.elim h
theorem W6(h:lC k vs):Cd λv r=>vs=v::r/\k v r:=by
 cases vs with
 |nil=>exact False.elim h
 |cons v r=>exact#[v,r,rfl,h]
theorem O8(h:l1 k vs):∃v,vs=[v]/\k v:=by
 obtain⟨v,r,rfl,h1⟩:=W6 h;obtain⟨rfl,h2⟩:=Xm h1;exact#[v,rfl,h2]
inductive If(b:Bool)(A B:Prop):Prop where
 |tt (_:b=true) (_:A)
 |ff (_:b=false) (_:B)
theorem If.t{A B:Prop}:If true A B->A
 |.tt _ h=>h
theorem If.f{A B:Prop}:If false A B->B
 |.ff _ h=>h
def WA(i:Nat):TE:=λσ H Q=>oV (λv=>Q v H) σ[i]?
def tC(v:V):TE:=λ_ H Q=>Q v H
theorem Zn(hN:X.N[i]? = some x)(hv:bX X.env.scope x)(hd:%[|48]=false:=by decide)(gq:(x == ("__classdict__":Str))=false:=by decide):PE X (.Name x pos) (WA i):=by
 exists 0;obtain⟨v,e,h⟩:=aO h;obtain⟨m,hn,hl⟩:=I.loc;obtain⟨u,r,l⟩:=hl i x v hN e hv;have dI:EP X pins σ Q u s:=#[v,H,I,r,h];rcases l with⟨hk,hm⟩|⟨hk,c,hc,dY⟩
 ·exact wpAny_Name (wpAny_loadName_local I.ok.kind hk hn hm dI) hd
 ·rcases hk with hk|hk
  ·exact wpAny_Name (wpAny_loadName_cell I.ok.kind hk hc dY dI) hd
  ·exact wpAny_Name (wpAny_loadName_free I.ok.kind hk hc dY dI gq) hd
theorem Ad {i j pos}:PE X (.Constant (.int i) j pos) (tC (.int i)):=λ_ _ _ H _ I h=>wpAny_Constant_int #[.int i,H,I.tok _,#[_,rfl],h]
theorem BN {b j pos}:PE X (.Constant (.bool b) j pos) (tC (.bl b)):=λ_ _ _ H _ I h=>Constant_bool #[.bl b,H,I,rfl,h]
theorem Cm {j pos}:PE X (.Constant .none j pos) (tC .non):=λ_ _ _ H _ I h=>Constant_none #[.non,H,I,rfl,h]
theorem Ae {x j pos}:PE X (.Constant (.str x) j pos) (tC (.str x)):=λ_ _ _ H _ I h=>Calls.Constant_str #[.str x,H,I.tok _,#[_,rfl],h]
def Gl(X:Cx)(x:Str):Prop:=X.env.kindOf x=some .globalImplicit
theorem Ey(I:%[|4])(hg:Gl X x)(hm:X.mg x=some u)(h:Q u s)(hd:%[|48]=false:=by decide):%[|20] (eval (.Name x pos) X.env) Q E s:=
 Calls.Name_function_global I.ok.kind hg (Calls.loadGlobal_global (by rw[I.ok.glob];exact I.mod.glob.keeps I.bk) hm h) hd
theorem EU(I:%[|4])(hg:Gl X x)(hm:X.mg x=none)(hv:bootBuiltins x=some u)(h:Q u s)(hn:x≠"__name__":=by decide)(hd:%[|48]=false:=by decide):%[|20] (eval (.Name x pos) X.env) Q E s:=by
 obtain⟨mb,h1,h2⟩:=I.mod.blt;exact Calls.Name_function_global I.ok.kind hg (Calls.loadGlobal_builtin (by rw[I.ok.glob];exact I.mod.glob.keeps I.bk) hm (by rw[I.ok.blt];exact h1.keeps I.bk) ((h2 x hn).trans hv) h) hd
theorem Es(hg:Gl X x)(hm:X.mg x=some u)(r:RelV v u)(hd:%[|48]=false:=by decide):PE X (.Name x pos) (tC v):=
 λ_ _ _ H _ I h=>Ey I hg hm #[v,H,I,r,h] hd
theorem VO(hg:Gl X x)(hm:X.mg x=none)(hv:bootBuiltins x=some u)(r:RelV v u)(hn:x≠"__name__":=by decide)(hd:%[|48]=false:=by decide):PE X (.Name x pos) (tC v):=
 λ_ _ _ H _ I h=>EU I hg hm hv #[v,H,I,r,h] hn hd
variable {a b:Expr}{ta tb:TE}{pos:Pos}
def PC(X:Cx)(op:CmpOp)(a b:Expr)(t:TE):Prop:=
 ∀pins s(σ:St)H Q,%[|4]->t σ H Q->
  wpAny %[|18] X.A (eval a X.env) (λv s₁=>%[|20] (eval b X.env) (λu s₂=>%[|20] (compareOp op v u) %[|51] X.xe s₂) X.xe s₁) X.xe s
theorem KC(b:Expr)(h:op≠.In)(h2:op≠.NotIn):behindInMarks op b=false:=by
 have e1:(op == CmpOp.In)=false:=by cases op<;>first|rfl|exact absurd rfl h
 have e2:(op == CmpOp.NotIn)=false:=by cases op<;>first|rfl|exact absurd rfl h2
 cases b<;>simp[behindInMarks,e1,e2]
def bc(ta:TE):TE:=λσ H Q=>ta σ H λx H1=>Q (.bl (decide (x=.non))) H1
def aM(ta:TE):TE:=λσ H Q=>ta σ H λx H1=>Q (.bl (!decide (x=.non))) H1
theorem RelV.none_iff(r:RelV x v):(v == Value.none)=decide (x=.non):=by
 cases x with
 |non=>cases r;rfl
 |bl _=>cases r;rfl
 |int _=>obtain⟨t,rfl⟩:=r;rfl
 |str _=>obtain⟨t,rfl⟩:=r;rfl
 |byt _=>obtain⟨t,rfl⟩:=r;rfl
 |flt _=>obtain⟨t,rfl⟩:=r;rfl
 |ref _=>cases r;rfl
 |ty _=>cases r;rfl
theorem FV {j eF} (ha:PE X a ta):PC X .Is a (.Constant .none j eF) (bc ta):=by
 exists 0;refine AU %[|62] λv s1 ⟨x,H1,I1,r1,q1⟩=>?_
 exact Constant_none (is_none_gen #[.bl _,H1,I1,by rw[r1.none_iff];rfl,q1])
theorem Kh {j eF} (ha:PE X a ta):PC X .IsNot a (.Constant .none j eF) (aM ta):=by
 exists 0;refine AU %[|62] λv s1 ⟨x,H1,I1,r1,q1⟩=>?_
 exact Constant_none (isnot_none_gen #[.bl _,H1,I1,by rw[r1.none_iff];rfl,q1])
def cZ(Q:Bool->Hp->Prop)(x:V)(H1:Hp):Prop:=vB (λc=>Q c H1) x
def tB(t:TE):TT:=λσ H Q=>t σ H (cZ Q)
theorem NY(h:PC X op a b t)(h1:behindInMarks op b=false:=by first|exact KC _ %[|2] %[|2]|rfl):PE X (.Compare a [op] [b] pos) t:=λpins s σ H Q I hw=>wpAny_Compare1 (h pins s σ H Q I hw) h1
theorem FJ(h:PC X op a b t)(h1:behindInMarks op b=false:=by first|exact KC _ %[|2] %[|2]|rfl):PT X (.Compare a [op] [b] pos) (tB t):=by
 intro pins s σ H Q I hw;refine wpAny_isTrue_Compare1 (AU (h pins s σ H _ I hw) λv s1 h1=>AU h1 λu s2 h2=>AU h2 λc s3 ⟨x,H1,I1,r1,q1⟩=>?_) h1;obtain⟨d,rfl,q⟩:=G9 q1;cases r1;exact wpAny_truthy_bool #[H1,I1,q]
theorem Bv(h:PE X e t)(he:∀fz,isTrue e X.env fz=(do let v <-fz;standAt e.pos;holding [v] (truthy v)):=by intro _;rfl):PT X e (tB t):=by
 intro pins s σ H Q I hw;refine isTrue_plain (AU (h pins s σ H _ I hw) λv s1 ⟨x,H1,I1,r1,q1⟩=>?_) (he _);obtain⟨d,rfl,q⟩:=G9 q1;cases r1;exact wpAny_truthy_bool #[H1,I1,q]
variable {tA tB':TT}{rest:%[|22]}
def bg(t u:TT):TT:=λσ H Q=>t σ H λc H1=>If c (u σ H1 Q) (Q false H1)
def cA(t u:TT):TT:=λσ H Q=>t σ H λc H1=>If c (Q true H1) (u σ H1 Q)
def bh(t:TT):TT:=λσ H Q=>t σ H λc H1=>Q (!c) H1
theorem DC(ha:PT X a tA):PW X (.BoolOp .And [a] pos) tA:=by
 intro wh pins s σ H Q I h;refine isTrue_and (AU (ha pins s σ H Q I h) λc s1 e=>?_)
 cases c with
 |true=>exact isTrue_and_nil e
 |false=>exact e
theorem E5(ha:PT X a tA):PW X (.BoolOp .Or [a] pos) tA:=by
 intro wh pins s σ H Q I h;refine isTrue_or (AU (ha pins s σ H Q I h) λc s1 e=>?_)
 cases c with
 |false=>exact isTrue_or_nil e
 |true=>exact e
theorem EW(ha:PT X a tA)(hb:PW X (.BoolOp .And (b::rest) pos) tB'):PW X (.BoolOp .And (a::b::rest) pos) (bg tA tB'):=by
 intro wh pins s σ H Q I h;refine isTrue_and (AU %[|62] λc s1 ⟨H1,I1,q1⟩=>?_)
 cases c with
 |true=>exact hb wh pins s1 σ H1 Q I1 q1.t
 |false=>exact#[H1,I1,q1.f]
theorem HB(ha:PT X a tA)(hb:PW X (.BoolOp .Or (b::rest) pos) tB'):PW X (.BoolOp .Or (a::b::rest) pos) (cA tA tB'):=by
 intro wh pins s σ H Q I h;refine isTrue_or (AU %[|62] λc s1 ⟨H1,I1,q1⟩=>?_)
 cases c with
 |true=>exact#[H1,I1,q1.t]
 |false=>exact hb wh pins s1 σ H1 Q I1 q1.f
theorem Ct(ha:PT X a tA):PT X (.UnaryOp .Not a pos) (bh tA):=by
 exists 0;exact isTrue_not (AU (ha pins s σ H (λc H1=>Q (!c) H1) I h) λ_ _ ⟨H1,I1,q⟩=>#[H1,I1,q])
def Zp(tb:TE)(σ:St)(Q:VK)(x:V)(H1:Hp):Prop:=vB (λc=>If c (tb σ H1 Q) (Q (.bl false) H1)) x
def aE(ta tb:TE):TE:=λσ H Q=>ta σ H (Zp tb σ Q)
def Z6(tb:TE)(σ:St)(Q:VK)(x:V)(H1:Hp):Prop:=vB (λc=>If c (Q (.bl true) H1) (tb σ H1 Q)) x
def bI(ta tb:TE):TE:=λσ H Q=>ta σ H (Z6 tb σ Q)
def YB(Q:VK)(x:V)(H1:Hp):Prop:=vB (λc=>Q (.bl (!c)) H1) x
def aj(ta:TE):TE:=λσ H Q=>ta σ H (YB Q)
theorem DD{op}(h:PE X a t):PE X (.BoolOp op [a] pos) t:=λpins s σ H Q I hw=>BoolOp_one (h pins s σ H Q I hw)
theorem MO(ha:PE X a ta)(hb:PE X (.BoolOp .And (b::rest) pos) tb):PE X (.BoolOp .And (a::b::rest) pos) (aE ta tb):=by
 exists 0;refine BoolOp_and (AU %[|62] λv s1 ⟨x,H1,I1,r1,q1⟩=>?_);obtain⟨c,rfl,gO⟩:=G9 q1;cases r1;refine wpAny_truthy_bool ?_
 cases c with
 |true=>exact hb pins s1 σ H1 Q I1 gO.t
 |false=>exact#[.bl false,H1,I1,rfl,gO.f]
theorem IA(ha:PE X a ta)(hb:PE X (.BoolOp .Or (b::rest) pos) tb):PE X (.BoolOp .Or (a::b::rest) pos) (bI ta tb):=by
 exists 0;refine BoolOp_or (AU %[|62] λv s1 ⟨x,H1,I1,r1,q1⟩=>?_);obtain⟨c,rfl,gO⟩:=G9 q1;cases r1;refine wpAny_truthy_bool ?_
 cases c with
 |false=>exact hb pins s1 σ H1 Q I1 gO.f
 |true=>exact#[.bl true,H1,I1,rfl,gO.t]
theorem HL(ha:PE X a ta):PE X (.UnaryOp .Not a pos) (aj ta):=by
 exists 0;refine UnaryOp_ (AU %[|62] λv s1 ⟨x,H1,I1,r1,q1⟩=>?_);obtain⟨c,rfl,gO⟩:=G9 q1;cases r1;exact not_of (wpAny_truthy_bool #[.bl (!c),H1,I1,rfl,gO])
def cY(t:TT)(ta tb:TE):TE:=λσ H Q=>t σ H λc H1=>If c (ta σ H1 Q) (tb σ H1 Q)
theorem D8(hc:PT X c tA)(ha:PE X a ta)(hb:PE X b tb):PE X (.IfExp c a b pos) (cY tA ta tb):=by
 exists 0;refine wpAny_IfExp (AU (hc pins s σ H _ I h) λd s1 ⟨H1,I1,q1⟩=>?_)
 cases d with
 |true=>exact ha pins s1 σ H1 Q I1 q1.t
 |false=>exact hb pins s1 σ H1 Q I1 q1.f
end
def SqL(K:PySem.W.Frag)(H:Hp)(a:Addr)(xs:List V):Prop:=
 Rd H a %[|12]\/
  Fb λ(o:Obj)(its:Array Value)(n:Nat)=>Zw (K.lookup a=some o) (o.cls=.type "list") (o.dict=none) (o.data=.seq its n) (its.size<=sizeLine) (Vals xs its.toList)
def SqT(K:PySem.W.Frag)(H:Hp)(a:Addr)(xs:List V):Prop:=
 Rd H a (.tup xs)\/
  Fb λ(o:Obj)(its:Array Value)(n:Nat)=>Il (K.lookup a=some o) (o.cls=.type "tuple") (o.data=.seq its n) (its.size<=sizeLine) (Vals xs its.toList)
def bZ:Value->Option V
 |.none=>some .non
 |.bool b=>some (.bl b)
 |.int i _=>some (.int i)
 |.str x _=>some (.str x)
 |.bytes b _=>some (.byt b)
 |.float b _=>some (.flt b)
 |.ref a=>some (.ref a)
 |.type n=>some (.ty n)
 |_=>none
theorem RelV.abs(r:RelV x u):bZ u=some x:=by
 cases x with
 |non=>cases r;rfl
 |bl _=>cases r;rfl
 |int _=>obtain⟨t,rfl⟩:=r;rfl
 |str _=>obtain⟨t,rfl⟩:=r;rfl
 |byt _=>obtain⟨t,rfl⟩:=r;rfl
 |flt _=>obtain⟨t,rfl⟩:=r;rfl
 |ref _=>cases r;rfl
 |ty _=>cases r;rfl
theorem RelV.inj(r:RelV x u)(q:RelV y u):x=y:=zAH (r.abs.symm.trans q.abs)
theorem Vals.inj:∀{xs ys:List V}{us:%[|6]},Vals xs us->Vals ys us->xs=ys
 |_,_,_,.nil,.nil=>rfl
 |_,_,_,.cons r t,.cons r' t'=>by rw[r.inj r',Vals.inj t t']
section
variable {X:Cx}{pins:%[|19]}{σ:St}{H:Hp}{s:Shared}{a:Addr}{xs ys:List V}
theorem SqL.of{K:PySem.W.Frag}(h:H a=some %[|12]):SqL K H a xs:=.inl (.inl h)
theorem SqT.of{K:PySem.W.Frag}(h:H a=some (.tup xs)):SqT K H a xs:=.inl (.inl h)
theorem Inv.list(I:%[|4])(h:SqL X.K H a xs):∃its:%[|6],BV (Vals xs its) (PlainL s.heap a its.toArray) (xs.length<=sizeLine):=by
 rcases h with h|⟨o,its,n,hk,hc,hd,hs,hz,r⟩
 ·obtain⟨z,its,n,r,e⟩:=h.ok I.hok;exact#[its,r,#[_,n,e,rfl,rfl,rfl],z]
 ·refine#[its.toList,r,#[o,n,I.kIn a o hk,hc,hd,by simpa using hs],?_];have e:=r.length;simp only[zAL]at e;omega
theorem Inv.tuple(I:%[|4])(h:SqT X.K H a xs):∃its:%[|6],BV (Vals xs its) (IsTup s.heap a its.toArray) (xs.length<=sizeLine):=by
 rcases h with h|⟨o,its,n,hk,hc,hs,hz,r⟩
 ·obtain⟨z,its,r,p⟩:=h.ok I.hok;exact#[its,r,p,z]
 ·refine#[its.toList,r,#[o,I.kIn a o hk,hc,n,by simpa using hs],?_];have e:=r.length;simp only[zAL]at e;omega
theorem Inv.list_inj(I:%[|4])(h:SqL X.K H a xs)(h':SqL X.K H a ys):xs=ys:=by
 obtain⟨its,r,⟨o,n,e,_,_,d⟩,_⟩:=I.list h;obtain⟨its',r',⟨o',n',e',_,_,d'⟩,_⟩:=I.list h';rw[e]at e';cases e';rw[d]at d';injection d' with d1 _
 have:its=its':=by simpa using congrArg Array.toList d1
 subst this;exact r.inj r'
theorem Inv.tuple_inj(I:%[|4])(h:SqT X.K H a xs)(h':SqT X.K H a ys):xs=ys:=by
 obtain⟨its,r,⟨o,e,_,n,d⟩,_⟩:=I.tuple h;obtain⟨its',r',⟨o',e',_,n',d'⟩,_⟩:=I.tuple h';rw[e]at e';cases e';rw[d]at d';injection d' with d1 _
 have:its=its':=by simpa using congrArg Array.toList d1
 subst this;exact r.inj r'
end
abbrev Cx.wish(X:Cx)(E:Value->Shared->Prop):Cx:={X with xe:=E}
abbrev Cx.nox(X:Cx):Cx:=X.wish λ_ _=>False
theorem Cx.Ok.wish{X:Cx}(ok:X.Ok)(E:Value->Shared->Prop):(X.wish E).Ok:=
 #[ok.mod,ok.kind,ok.glob,ok.blt,ok.above,ok.inj,ok.has,ok.cab,ok.hd,ok.frames,ok.stk,ok.exf,ok.bs,ok.bsz,ok.noex,ok.exfs,ok.funs,ok.frf]
theorem Cx.Ok.unwish{X:Cx}{E:Value->Shared->Prop}(ok:(X.wish E).Ok):X.Ok:=
 #[ok.mod,ok.kind,ok.glob,ok.blt,ok.above,ok.inj,ok.has,ok.cab,ok.hd,ok.frames,ok.stk,ok.exf,ok.bs,ok.bsz,ok.noex,ok.exfs,ok.funs,ok.frf]
section
variable {X:Cx}{pins:%[|19]}{σ:St}{H:Hp}{s:Shared}{E:Value->Shared->Prop}
theorem Inv.wish(I:%[|4])(E:Value->Shared->Prop):Inv (X.wish E) pins σ H s:=#[I.ok.wish E,I.os,I.bare,I.base,I.loc,I.cell,I.free,I.freeC,I.pin,I.hok,I.len]
theorem Inv.unwish(I:Inv (X.wish E) pins σ H s):%[|16] H s:=#[I.ok.unwish,I.os,I.bare,I.base,I.loc,I.cell,I.free,I.freeC,I.pin,I.hok,I.len]
theorem SP.unwish(h:SP (X.wish E) pins D f s'):SP X pins D f s':=by
 cases f with
 |next=>obtain⟨σ',H',I,q⟩:=h;exact#[σ',H',I.unwish,q]
 |brk=>obtain⟨σ',H',I,q⟩:=h;exact#[σ',H',I.unwish,q]
 |cont=>obtain⟨σ',H',I,q⟩:=h;exact#[σ',H',I.unwish,q]
 |ret u=>obtain⟨v,σ',H',I,r,q⟩:=h;exact#[v,σ',H',I.unwish,r,q]
theorem PE.nox(h:PE X.nox e t):PE X e t:=λpins s σ H Q I hw=>
 wpAny_mono (h pins s σ H Q (I.wish _) hw) (λ_ _ ⟨v,H',I',r,q⟩=>#[v,H',I'.unwish,r,q]) λ_ _ z=>False.elim z
theorem PSs.nox{st:List Stmt}(h:PSs X.nox st t):PSs X st t:=λpins s σ H D I hw=>
 wpAny_mono (h pins s σ H D (I.wish _) hw) (λ_ _ q=>q.unwish) λ_ _ z=>False.elim z
end
section
variable {X:Cx}{st:Stmt}{rest:List Stmt}{t u:TS}{e:Expr}{te:TE}{pos:Pos}
def ZD:TS:=λD σ H=>D.nx σ H
def VZ(t u:TS):TS:=λD σ H=>t {D with nx:=u D} σ H
theorem Ah:PSs X [] ZD:=λ_ _ σ H _ I h=>wpAny_execs_nil #[σ,H,I,h]
theorem Aa(h1:PS X st t)(h2:PSs X rest u):PSs X (st::rest) (VZ t u):=by
 exists 7;refine wpAny_execs_cons (AU (h1 pins s σ H {D with nx:=u D} I h) λf s1 q=>?_)
 cases f with
 |next=>
  obtain⟨σ',H',I',q⟩:=q;exact h2 pins s1 σ' H' D I' q
 |ret v=>exact q
 |brk=>exact q
 |cont=>exact q
theorem Ak(h1:PS X st t):PSs X [st] t:=by
 exists 7;refine wpAny_execs_cons (AU (h1 pins s σ H D I h) λf s1 q=>?_)
 cases f with
 |next=>exact wpAny_execs_nil q
 |ret v=>exact q
 |brk=>exact q
 |cont=>exact q
theorem Inv.quiet(I:%[|4]):interactive X.env=false:=by simp[interactive,I.ok.kind]
def ad(te:TE):TS:=λD σ H=>te σ H λ_ H1=>D.nx σ H1
theorem As(he:PE X e te)(hs:swapsWith e none pos.line X.env=pure false:=by rfl):PS X (.Expr e pos) (ad te):=by
 exists 7;exact wpAny_Expr_any (AU (he pins s σ H _ I h) λv s1 ⟨x,H1,I1,r1,q1⟩=>#[σ,H1,I1,q1]) I.quiet hs
def aN(te:TE):TS:=λD σ H=>te σ H D.rt
theorem UR(he:PE X e te):PS X (.Return (some e) pos) (aN te):=by
 exists 7;exact wpAny_Return_some (AU (he pins s σ H _ I h) λv s1 ⟨x,H1,I1,r1,q1⟩=>#[x,σ,H1,I1,r1,q1])
def bJ(c:TT)(t u:TS):TS:=λD σ H=>c σ H λb H1=>If b (t D σ H1) (u D σ H1)
theorem Aq(hc:PT X c tc)(ha:PSs X a t)(hb:PSs X b u):PS X (.If c a b pos) (bJ tc t u):=by
 exists 7;refine wpAny_If (AU (hc pins s σ H _ I h) λd s1 ⟨H1,I1,q1⟩=>?_)
 cases d with
 |true=>exact ha pins s1 σ H1 D I1 q1.t
 |false=>exact hb pins s1 σ H1 D I1 q1.f
end
abbrev TG:=V->St->Hp->(St->Hp->Prop)->Prop
abbrev Xz:=List V->St->Hp->(St->Hp->Prop)->Prop
def PG(X:Cx)(target:Expr)(t:TG):Prop:=
 ∀pins s(σ:St)H v u(Q:St->Hp->Prop),%[|4]->RelV v u->t v σ H Q->
  wpAny %[|18] X.A (assign target X.env u) (λ_ s'=>Cd λσ' H'=>Inv X pins σ' H' s'/\Q σ' H') X.xe s
def aU(X:Cx)(ts:%[|22])(t:Xz):Prop:=
 ∀pins s(σ:St)H vs us(Q:St->Hp->Prop),%[|4]->Vals vs us->t vs σ H Q->
  wpAny %[|18] X.A (assignInOrder ((assignEach ts X.env).map (·.2)) us) (λ_ s'=>Cd λσ' H'=>Inv X pins σ' H' s'/\Q σ' H') X.xe s
abbrev Yr:=V->V->V->Hp->(Hp->Prop)->Prop
def VX(X:Cx)(t:Yr):Prop:=
 ∀pins s(σ:St)H o i v ov iv u(Q:Hp->Prop),%[|4]->RelV o ov->RelV i iv->RelV v u->t o i v H Q->
  wpAny %[|18] X.A (setItem ov iv u) (λ_ s'=>∃H',%[|16] H' s'/\Q H') X.xe s
section
variable {X:Cx}{pos:Pos}
def Cr(i:Nat):TG:=λv σ H Q=>Q (σ.set i (some v)) H
theorem Ke(hN:X.N.Nodup)(hi:X.N[i]? = some x)(hx:UD X.env.scope x)(hf:X.fn x=true\/X.env.scope.names.lookup x=some .local:=by first|exact .inl rfl|exact .inr rfl|assumption):PG X (.Name x pos) (Cr i):=by
 intro pins s σ H v u Q I r h;exact wpAny_assign_Name (Hq I hN hi hx r (λs' I'=>#[_,H,I',h]) hf)
def bO:Xz:=λvs σ H Q=>vs=[]/\Q σ H
def ZC(t:TG)(u:Xz):Xz:=λvs σ H Q=>lC (λv r=>t v σ H λσ' H'=>u r σ' H' Q) vs
theorem Pq:aU X [] bO:=by
 intro pins s σ H vs us Q I r h;obtain⟨e,h⟩:=h;subst e;cases r;exact assignInOrder_nil #[σ,H,I,h]
theorem FA(h1:PG X e t)(h2:aU X es u)(hs:(assignEach (e::es) X.env).map (·.2)=assign e X.env::(assignEach es X.env).map (·.2):=by rfl):aU X (e::es) (ZC t u):=by
 intro pins s σ H vs us Q I r h;obtain⟨v,vr,rfl,h'⟩:=W6 h
 cases r with
 |cons r rr=>
  rw[hs];refine assignInOrder_cons (AU (h1 pins s σ H _ _ _ I r h') λ_ s1 ⟨σ1,H1,I1,q1⟩=>?_);exact h2 pins s1 σ1 H1 _ _ Q I1 rr q1
inductive XI(K:PySem.W.Frag)(n:Nat)(t:Xz)(a:Addr)(σ:St)(H:Hp)(Q:St->Hp->Prop):Prop|mk{xs}(_:SqT K H a xs)(_:xs.length=n)(_:t xs σ H Q)
def bG(K:PySem.W.Frag)(n:Nat)(t:Xz):TG:=λv σ H Q=>vR (λa=>XI K n t a σ H Q) v
theorem SE(hc:X.calm=true)(h:aU X es t)(hn:(assignEach es X.env).length=n:=by rfl)(eG:(assignEach es X.env).findIdx? (·.1)=none:=by rfl):PG X (.Tuple es k pos) (bG X.K n t):=by
 intro pins s σ H v u Q I r hw;obtain⟨a,rfl,@⟨xs,hq,hl,hw'⟩⟩:=C8 hw;cases r;obtain⟨its,rv,ht,hz⟩:=I.tuple hq;refine assign_Tuple_tuple (I.ok.hd hc) ht (by simp[hn,<-hl,rv.length]) eG λh' hx=>?_
 have I1:%[|16] H {s with heap:=h' }:=I.kept (t':=s.toks) λb o e=>hx b o (zAI (zAF e)) e
 exact h pins _ σ H xs _ Q I1 (by simpa using rv) hw'
def bu(to ti:TE)(t:Yr):TG:=λv σ H Q=>to σ H λo H1=>ti σ H1 λi H2=>t o i v H2 λH3=>Q σ H3
theorem B9(ho:PE X o to)(hi:PE X i ti)(hs:VX X t)(ha:∀v,assign (.Subscript o i pos) X.env v=(do
   let ov <-holding [v] (eval o X.env)
   let iv <-holding [v,ov] (eval i X.env)
   standAt pos
   holding [v,ov,iv] (setItem ov iv v)
   release [v,ov,iv] []):=by intro _;rfl):PG X (.Subscript o i pos) (bu to ti t):=by
 intro pins s σ H v u Q I r h;rw[ha];refine wpAny_bind (wpAny_holding (AU (ho pins s σ H _ I h) λov s1 ⟨x,H1,I1,r1,q1⟩=>?_));refine wpAny_bind (wpAny_holding (AU (hi pins s1 σ H1 _ I1 q1) λiv s2 ⟨y,H2,I2,r2,q2⟩=>?_));refine wpAny_bind (wpAny_standAt (wpAny_bind (wpAny_holding (AU (hs pins s2 σ H2 x y v ov iv u _ I2 r1 r2 r q2) λ_ s3 ⟨H3,I3,q3⟩=>?_))));exact wpAny_release #[σ,H3,I3,q3]
def Km(te:TE)(g:TG):TS:=λD σ H=>te σ H λx H1=>g x σ H1 D.nx
theorem B8(he:PE X e te)(hg:PG X tg g)(hs:swapsWithSole [tg] e pos.line X.env=pure false:=by rfl)(hw:swappedStores [tg] e X.env=pure none:=by rfl)(h1:(assignEach [tg] X.env).map (·.2)=[assign tg X.env]:=by rfl):PS X (.Assign [tg] e pos) (Km te g):=by
 exists 7;refine wpAny_Assign_stores (AU (he pins s σ H _ I h) λv s1 ⟨x,H1,I1,r1,q1⟩=>?_) hs hw;rw[h1];exact AU (hg pins s1 σ H1 x v _ I1 r1 q1) λ_ s2 q=>q
theorem YV(hN:X.N.Nodup)(hi:X.N[i]? = some x)(hx:UD X.env.scope x)(he:PE X e te)(hs:swapsWith e (some (.Name x eF)) pos.line X.env=pure false:=by rfl)(hf:X.fn x=true\/X.env.scope.names.lookup x=some .local:=by first | exact .inl rfl | exact .inr rfl | assumption):
  PS X (.Assign [.Name x eF] e pos) (Km te (Cr i)):=by
 exists 7;refine wpAny_Assign_Name (AU (he pins s σ H _ I h) λv s1 ⟨y,H1,I1,r1,q1⟩=>?_) hs;exact Hq I1 hN hi hx r1 (λs2 I2=>#[_,H1,I2,q1]) hf
end
section
variable {X:Cx}{pos:Pos}
def Y6(c:TT)(tb:TS):TS:=λD σ H=>∃W:Nat->St->Hp->Prop,(∃m,W m σ H)/\∀m σ H,W m σ H->
 c σ H λb H1=>If b (∃N:St->Hp->Prop,(∀σ' H',N σ' H'->∃m',m'<m/\W m' σ' H')/\tb {D with nx:=N,ct:=N,bk:=D.nx} σ H1) (D.nx σ H1)
theorem Ei(hp:PassesOwn %[|18] X.A X.env X.xe)(hc:PT X c tc)(hb:PSs X body tb):PS X (.While c body [] pos) (Y6 tc tb):=by
 exists 7;obtain⟨W,⟨m0,w0⟩,iT⟩:=h;refine wpAny_While (codeAny_whileLoop (λn s'=>Cd λσ' H'=>Inv X pins σ' H' s'/\W n σ' H') ?_ m0 #[σ,H,I,w0]);rintro n s1 ⟨σ1,H1,I1,w1⟩;refine wpAny_passesOwn hp (AU (hc pins s1 σ1 H1 _ I1 (iT n σ1 H1 w1)) λb s2 ⟨H2,I2,q2⟩=>?_)
 cases b with
 |true=>
  obtain⟨N,hN,q2⟩:=q2.t;rw[if_pos rfl];refine wpAny_passesOwn hp (AU (hb pins s2 σ1 H2 _ I2 q2) λf s3 q3=>?_)
  cases f with
  |next=>
   obtain⟨σ3,H3,I3,n3⟩:=q3;obtain⟨m',hm,w3⟩:=hN σ3 H3 n3;exact#[m',hm,σ3,H3,I3,w3]
  |cont=>
   obtain⟨σ3,H3,I3,n3⟩:=q3;obtain⟨m',hm,w3⟩:=hN σ3 H3 n3;exact#[m',hm,σ3,H3,I3,w3]
  |brk=>exact q3
  |ret v=>exact q3
 |false=>
  rw[if_neg zAG];exact wpAny_execs_nil #[σ1,H2,I2,q2.f]
end
structure It where
 go:Nat->Hp->Prop
 yld:Nat->Hp->V->Hp->Prop
 stop:Nat->Hp->Prop
def CP(X:Cx)(pins:%[|19])(H:Hp)(b:Addr):Prop:=
 H b=none/\b≠X.env.locals/\b∉X.fs/\(b∈X.ex\/X.s₀.heap.objs.size<=b)/\(∀x c,X.env.cells.lookup x=some c->c≠b)/\∀p∈X.pn++pins,p.1≠b
theorem Inv.fpOk(I:%[|4])(hb:s.heap.objs.size<=b)(hn:H' b=none):CP X pins H' b:=by
 refine#[hn,zBO (zAN I.lt hb),I.nofs hb,.inr (zAC I.sz hb),λx c e z=>?_,λp hp z=>?_]
 ·obtain⟨v,q⟩:=I.cell x c e;exact absurd (zAN q.lt (by rw[z];exact hb)) (zBN _)
 ·exact absurd (zAN (zAF (I.pin p hp).1) (by rw[z];exact hb)) (zBN _)
structure L0(P:Program)(w:World)(K:PySem.W.Frag)(tg:Expr)(J:It)(fp:%[|3])(it:Addr)(tn:Nat->Heap->Prop):Prop where
 mem:it∈fp
 obj:∀i h,tn i h->∀b∈fp,∃o,h.get? b=some o/\∀v,o.data≠.cell v
 keep:∀i h h',tn i h->(∀b∈fp,∀o,h.get? b=some o->h'.get? b=some o)->tn i h'
 item:∀(X:Cx),X.prog=P->X.w=w->X.K=K->X.calm=true->∀(i:Nat)(pins:%[|19])(s:Shared)(σ:St)(H:Hp)(E:Value->Shared->Prop),%[|4]->(∀b∈fp,CP X pins H b)->tn i s.heap->J.go i H->
  wpAny (model P w) X.A (pyNext (.ref it)) (λr s1=>∃u,r=some u/\
   wpAny (model P w) X.A (letOwnedTupleGo tg (.ref it) u) (λ_ s2=>Cd λx H'=>Il (%[|16] H' s2) (RelV x u) (J.yld i H x H') (tn (i+1) s2.heap) (∀b∈fp,H' b=none)) E s1) E s
 done:∀(X:Cx),X.prog=P->X.w=w->X.K=K->X.calm=true->∀(i:Nat)(pins:%[|19])(s:Shared)(σ:St)(H:Hp)(E:Value->Shared->Prop),%[|4]->(∀b∈fp,CP X pins H b)->tn i s.heap->J.stop i H->
  wpAny (model P w) X.A (pyNext (.ref it)) (λr s1=>r=none/\%[|16] H s1) E s
 self:∀(A:Around)(i:Nat)(s:Shared)(Q:Value->Shared->Prop)(E:Value->Shared->Prop),tn i s.heap->Q (.ref it) s->wpAny (model P w) A (pyIter (.ref it)) Q E s
abbrev TI:=St->Hp->(It->Hp->Prop)->Prop
inductive bF(X:Cx)(pins:%[|19])(σ:St)(tg:Expr)(R:It->Hp->Prop)(eY:Value)(s2:Shared):Prop where
 |mk (it:Addr) (fp:%[|3]) (tn:Nat->Heap->Prop) (J:It) (H':Hp) (_:eY=.ref it) (_:%[|16] H' s2) (_:L0 X.prog X.w X.K tg J fp it tn) (_:tn 0 s2.heap) (_:(∀b∈fp,CP X pins H' b)) (_:R J H')
def PI(X:Cx)(tg df:Expr)(wi:TI):Prop:=
 ∀pins s(σ:St)H(R:It->Hp->Prop),%[|4]->wi σ H R->
  wpAny %[|18] X.A (eval df X.env) (λv s1=>%[|20] (pyIter v) (bF X pins σ tg R) X.xe s1) X.xe s
theorem Pp(ho:s.heap.get? it=some o)(hc:o.cls=.type n)(hd:o.data=.fields vs)(hn:["enumerate","zip","dict_itemiterator","dict_reverseitemiterator","odict_iterator","itertools.zip_longest","itertools.pairwise"].contains n=false)(hQ:Q () s):wpAny M A (letOwnedTupleGo tg (.ref it) u) Q E s:=by
  unfold letOwnedTupleGo
  cases tg<;>first
    |exact wpAny_pure hQ
    | (cases u<;>first
        |exact wpAny_pure hQ
        | (refine wpAny_bind (wpAny_load ho ?_)
           rw[hc,hd]
           show wpAny M A (if (["enumerate","zip","dict_itemiterator","dict_reverseitemiterator","odict_iterator","itertools.zip_longest","itertools.pairwise"].contains n && vs[0]? == some (rawInt _))=true then _ else _) Q E s
           rw[if_neg (by intro h;rw[hn,Bool.false_and]at h;cases h)]
           exact wpAny_pure hQ))
def Va(K:PySem.W.Frag)(a:Addr):It:=
 #[λi H=>Cd λxs x=>SqL K H a xs/\xs[i]? = some x,λi H x H'=>H'=H/\∀xs,SqL K H a xs->xs[i]? = some x,λi H=>∃xs,SqL K H a xs/\xs.length<=i]
def ZH(K:PySem.W.Frag)(a:Addr):It:=
 #[λi H=>Cd λxs x=>SqT K H a xs/\xs[i]? = some x,λi H x H'=>H'=H/\∀xs,SqT K H a xs->xs[i]? = some x,λi H=>∃xs,SqT K H a xs/\xs.length<=i]
def XX(lo:Int)(n:Nat):It:=#[λi _=>i<n,λi H x H'=>H'=H/\x=.int (lo+i),λi _=>n<=i]
theorem Ra{P:Program}{w:World}{K:PySem.W.Frag}{tg:Expr}(a it:Addr):L0 P w K tg (Va K a) [it] it (λi h=>h.IsListIter it a i) where
 mem:=by simp
 obj:=λi h st b hb=>by
  have e:b=it:=by simpa using hb
  subst e;obtain⟨o,e,c,d⟩:=st;exact#[o,e,λv z=>by rw[d]at z;cases z]
 keep:=λi h h' st k=>st.at λo e=>k it %[|1] o e
 item:=by
  exists 608;obtain⟨xs,x,hq,hx⟩:=hg;obtain⟨its,rv,p,hz⟩:=I.list hq;obtain⟨u,hu,ru⟩:=rv.get hx;exists 16;refine wpAny_pyNext_list_item st p.isList (x:=u) (by simpa using hu) λh' iU sb=>?_
  have I1:%[|16] H {s with heap:=h' }:=I.turned (t':=s.toks) (λb o hb e=>(sb.2 b hb).trans e) f0 f1 f3 f4 f5;obtain⟨o,e,c,d⟩:=id iU;exact#[u,rfl,Pp (s:={s with heap:=h' }) e c d %[|2] #[x,H,I1,ru,#[rfl,λys hy=>by rw[I.list_inj hy hq];exact hx],iU,λb hb=>(hf b hb).1]]
 done:=by
  exists 608;obtain⟨xs,hq,hx⟩:=hg;obtain⟨its,rv,p,hz⟩:=I.list hq;exists 16;have hl:=rv.length;exact wpAny_pyNext_list_end (I.ok.hd hc) st p.isList (by simp;omega) λh' eb=>#[rfl,I.turned (t':=s.toks) (λb o hb e=>eb b o hb e) f0 f1 f3 f4 f5]
 self:=λ_ _ _ _ _ st h=>wpAny_pyIter_listiter st h
theorem NU{P:Program}{w:World}{K:PySem.W.Frag}{tg:Expr}(a it:Addr):L0 P w K tg (ZH K a) [it] it (λi h=>h.IsTupleIter it a i) where
 mem:=by simp
 obj:=λi h st b hb=>by
  have e:b=it:=by simpa using hb
  subst e;obtain⟨o,e,c,d⟩:=st;exact#[o,e,λv z=>by rw[d]at z;cases z]
 keep:=λi h h' st k=>st.at λo e=>k it %[|1] o e
 item:=by
  exists 608;obtain⟨xs,x,hq,hx⟩:=hg;obtain⟨its,rv,p,hz⟩:=I.tuple hq;obtain⟨u,hu,ru⟩:=rv.get hx;exists 16;refine wpAny_pyNext_tuple_item st (show s.heap.IsTuple a its.toArray from p) (x:=u) (by simpa using hu) λh' iU sb=>?_
  have I1:%[|16] H {s with heap:=h' }:=I.turned (t':=s.toks) (λb o hb e=>(sb.2 b hb).trans e) f0 f1 f3 f4 f5;obtain⟨o,e,c,d⟩:=id iU;exact#[u,rfl,Pp (s:={s with heap:=h' }) e c d %[|2] #[x,H,I1,ru,#[rfl,λys hy=>by rw[I.tuple_inj hy hq];exact hx],iU,λb hb=>(hf b hb).1]]
 done:=by
  exists 608;obtain⟨xs,hq,hx⟩:=hg;obtain⟨its,rv,p,hz⟩:=I.tuple hq;exists 16;have hl:=rv.length;exact wpAny_pyNext_tuple_end (I.ok.hd hc) st (show s.heap.IsTuple a its.toArray from p) (by simp;omega) λh' eb=>#[rfl,I.turned (t':=s.toks) (λb o hb e=>eb b o hb e) f0 f1 f3 f4 f5]
 self:=λ_ _ _ _ _ st h=>wpAny_pyIter_tupleiter st h
theorem NN{P:Program}{w:World}{K:PySem.W.Frag}{tg:Expr}(it:Addr)(lo:Int)(n:Nat):L0 P w K tg (XX lo n) [it] it (λi h=>IsRangeIter h it (lo+(i:Nat)*1) ((n:Int)-(i:Nat)) 1) where
 mem:=by simp
 obj:=λi h st b hb=>by
  have e:b=it:=by simpa using hb
  subst e
  exact#[_,st,λv z=>by
   have z':Data.fields _=Data.cell v:=z
   cases z']
 keep:=λi h h' st k=>k it %[|1] _ st
 item:=by
  exists 608;exists 16;have W:=Walks.range (prog:=X.prog) (w:=X.w) (I.ok.hd hc) it lo 1 n;refine W.item i s _ _ hg st λv h' tk hv iU kk=>?_
  obtain⟨t,rfl⟩:=hv;have I1:%[|16] H {s with heap:=h',toks:=tk}:=I.turned (λb o hb e=>kk b o (by simpa using hb) e) f0 f1 f3 f4 f5;refine#[_,rfl,Pp (s:={s with heap:=h',toks:=tk}) (n:="range_iterator") iU rfl rfl %[|2] #[.int (lo+i),H,I1,#[t,?_],#[rfl,rfl],iU,λb hb=>(hf b hb).1]];rw[Int.mul_one]
 done:=by
  exists 608;exists 16;exact wpAny_pyNext_range_end (I.ok.hd hc) st (by have:n<=i:=hg;omega) λh' eb=>#[rfl,I.turned (t':=s.toks) (λb o hb e=>eb b o hb e) f0 f1 f3 f4 f5]
 self:=λ_ _ _ _ _ st h=>wpAny_pyIter_rangeiter st h
section
variable {X:Cx}{tg:Expr}
def YX(K:PySem.W.Frag)(R:It->Hp->Prop)(x:V)(H1:Hp):Prop:=vR (λa=>(∃xs,SqL K H1 a xs)/\R (Va K a) H1) x
def ay(K:PySem.W.Frag)(tl:TE):TI:=λσ H R=>tl σ H (YX K R)
def au(K:PySem.W.Frag)(R:It->Hp->Prop)(x:V)(H1:Hp):Prop:=vR (λa=>(∃xs,SqT K H1 a xs)/\R (ZH K a) H1) x
def bD(K:PySem.W.Frag)(tl:TE):TI:=λσ H R=>tl σ H (au K R)
theorem AT{tl:TE}(hl:PE X l tl):PI X tg l (ay X.K tl):=by
 intro pins s σ H R I h;refine AU (hl pins s σ H _ I h) λv s1 ⟨x,H1,I1,r1,q1⟩=>?_
 obtain⟨a,e,⟨xs,hq⟩,q⟩:=C8 q1;subst e;cases r1;obtain⟨its,rv,p,hz⟩:=I1.list hq;refine wpAny_pyIter_list p.isList ?_;refine#[s1.heap.objs.size,[s1.heap.objs.size],_,_,H1,rfl,I1.kept (t':=s1.toks) λb o e=>Heap.get?_push_of_some _ e,Ra a _,#[_,Heap.get?_push_size _ rfl,rfl,rfl],λb hb=>?_,q];have e:b=s1.heap.objs.size:=by simpa using hb
 subst e;exact I1.fpOk (zAA _) (I1.hok.fresh (zAA _))
theorem Y0{tl:TE}(hl:PE X l tl):PI X tg l (bD X.K tl):=by
 intro pins s σ H R I h;refine AU (hl pins s σ H _ I h) λv s1 ⟨x,H1,I1,r1,q1⟩=>?_
 obtain⟨a,e,⟨xs,hq⟩,q⟩:=C8 q1;subst e;cases r1;obtain⟨its,rv,p,hz⟩:=I1.tuple hq;refine wpAny_pyIter_tuple (show s1.heap.IsTuple a its.toArray from p) ?_;refine#[s1.heap.objs.size,[s1.heap.objs.size],_,_,H1,rfl,I1.kept (t':=s1.toks) λb o e=>Heap.get?_push_of_some _ e,NU a _,#[_,Heap.get?_push_size _ rfl,rfl,rfl],λb hb=>?_,q];have e:b=s1.heap.objs.size:=by simpa using hb
 subst e;exact I1.fpOk (zAA _) (I1.hok.fresh (zAA _))
theorem K3{lo hi:Int}(I:%[|4])(h1 : -(2^62)<=lo)(h2:lo<2^62)(h3 : -(2^62)<=hi)(h4:hi<2^62)(q:R (XX lo (hi-lo).toNat) H):%[|20] (pyIter %[|46]) (bF X pins σ tg R) E {s with heap:=s.heap.push {cls:=.type "range",data:=.fields #v[.int lo t,.int hi u,.int 1 v]},toks:=tk}:=by
 refine wpAny_pyIter_range (IsRange.new ..) (small_one h1 h2 h3 h4) ?_;have I1:%[|16] H {s with heap:=s.heap.push {cls:=.type "range",data:=.fields #v[.int lo t,.int hi u,.int 1 v]},toks:=tk}:=I.kept λb o e=>Heap.get?_push_of_some _ e
 refine#[(s.heap.push {cls:=.type "range",data:=.fields #v[.int lo t,.int hi u,.int 1 v]}).objs.size,[(s.heap.push {cls:=.type "range",data:=.fields #v[.int lo t,.int hi u,.int 1 v]}).objs.size],_,_,H,rfl,
  I1.kept (t':=tk) λb o e=>Heap.get?_push_of_some _ e,NN _ lo (hi-lo).toNat,?_,λb hb=>?_,q]
 ·have e1:lo+((0:Nat):Int)*1=lo:=by simp
  have e2:(((hi-lo).toNat:Nat):Int)-((0:Nat):Int)=Builtin.Range.rangeSize lo hi 1:=by rw[rangeSize_one];split<;>omega
  show IsRangeIter _ _ (lo+((0:Nat):Int)*1) ((((hi-lo).toNat:Nat):Int)-((0:Nat):Int)) 1;rw[e1,e2];exact Heap.get?_push_size _ rfl
 ·have e:b=(s.heap.push {cls:=.type "range",data:=.fields #v[.int lo t,.int hi u,.int 1 v]}).objs.size:=by simpa using hb
  subst e;exact I1.fpOk (zAA _) (I1.hok.fresh (zAA _))
def Zm(R:It->Hp->Prop)(vs:List V)(H1:Hp):Prop:=l1 (vI λj=>-(2^62)<=j/\j<2^62/\R (XX 0 j.toNat) H1) vs
def aK(ta:TA):TI:=λσ H R=>ta σ H (Zm R)
inductive TW(R:It->Hp->Prop)(vs:List V)(H1:Hp):Prop|mk(i j:Int)(_:vs=[.int i,.int j])(_:(-(2^62)<=i/\i<2^62/\-(2^62)<=j/\j<2^62))(_:R (XX i (j-i).toNat) H1)
def ZO(ta:TA):TI:=λσ H R=>ta σ H (TW R)
theorem Bs(hg:Gl X "range")(hm:X.mg "range"=none)(ha:PA X [a] ta)(hs:starEach [a] X.env=[(false,eval a X.env)]:=by rfl):PI X tg (.Call (.Name "range" p) [a] [] pos) (aK ta):=by
 intro pins s σ H R I h;refine Call_ (EU I hg hm boot_range (zB7 (AU (ha pos pins s σ H _ I h) λus s1 ⟨vs,H1,I1,r1,q1⟩=>?_) hs rfl));obtain⟨_,rfl,q0⟩:=O8 q1;obtain⟨j,rfl,q1,q2,q⟩:=FC q0
 cases r1 with
 |cons r rr=>
  cases rr;obtain⟨t,rfl⟩:=r;exact call_range_1 (K3 I1 %[|0] %[|0] q1 q2 (by simpa using q))
theorem RA(hg:Gl X "range")(hm:X.mg "range"=none)(ha:PA X [a,b] ta)(hs:starEach [a,b] X.env=[(false,eval a X.env),(false,eval b X.env)]:=by rfl)(jz:starEach [b] X.env=[(false,eval b X.env)]:=by rfl):
  PI X tg (.Call (.Name "range" p) [a,b] [] pos) (ZO ta):=by
 intro pins s σ H R I h;refine Call_ (EU I hg hm boot_range (zB7 (AU (ha pos pins s σ H _ I h) λus s1 ⟨vs,H1,I1,r1,q1⟩=>?_) (by rw[hs,jz]) (by rw[jz];rfl)));obtain⟨i,j,e,⟨q1,q2,q3,q4⟩,q⟩:=q1;subst e
 cases r1 with
 |cons r rr=>
  cases rr with
  |cons r' rr=>
   cases rr;obtain⟨t,rfl⟩:=r;obtain⟨t',rfl⟩:=r';exact call_range_2 (K3 I1 q1 q2 q3 q4 q)
def NP(wi:TI)(g:TG)(tb:TS):TS:=λD σ H=>wi σ H λJ H1=>∃W:Nat->Nat->St->Hp->Prop,(∃m,W 0 m σ H1)/\∀i m σ H,W i m σ H->
 (J.stop i H/\D.nx σ H)\/(J.go i H/\∃N:St->Hp->Prop,%[|97]/\∀x H',J.yld i H x H'->g x σ H' λσ2 H2=>tb {D with nx:=N,ct:=N,bk:=D.nx} σ2 H2)
def Hd(fp:%[|3])(h:Heap):List %[|111]:=fp.filterMap λb=>(h.get? b).map λo=>(b,o)
theorem DJ(hb:b∈fp)(e:h.get? b=some o):(b,o)∈Hd fp h:=List.mem_filterMap.mpr #[b,hb,by rw[e];rfl]
theorem QG(hp:p∈Hd fp h):p.1∈fp/\h.get? p.1=some p.2:=by
 obtain⟨b,hb,e⟩:=List.mem_filterMap.mp hp
 cases q:h.get? b with
 |none=>rw[q]at e;cases e
 |some o=>
  rw[q]at e;have e':(b,o)=p:=zAH e;subst e';exact#[hb,q]
theorem Inv.pinned(I:%[|4])(hf:∀b∈fp,CP X pins H b)(ho:∀b∈fp,∃o,s.heap.get? b=some o/\∀v,o.data≠.cell v):Inv X (pins++Hd fp s.heap) σ H s:=
 I.pins_of λp hp=>(List.mem_append.mp hp).elim (λz=>I.pin p (zAE _ z)) λz=>by
  obtain⟨hb,e⟩:=QG z;obtain⟨f0,f1,f2,_⟩:=hf p.1 hb;obtain⟨o,e',d⟩:=ho p.1 hb;rw[e]at e';cases e';exact#[e,f0,f1,f2,d]
theorem Inv.unpinned(I:Inv X (pins++pl) σ H s):%[|16] H s:=I.pins_of λp hp=>I.pin p (zAE _ (zBM _ hp))
theorem BB{wi:TI}(hp:PassesOwn %[|18] X.A X.env X.xe)(hc:X.calm=true)(hi:PI X tg df wi)(hg:PG X tg g)(hb:PSs X body tb)(hs:∀x,foldedSetIterable df X.env x=pure x:=by intro _;rfl):PS X (.For tg df body [] pos) (NP wi g tb):=by
 exists 7;refine wpAny_For (AU (hi pins s σ H _ I h) λv s1 h1=>AU h1 λeY s2 h2=>?_) hs;obtain⟨it,fp,tn,J,H2,e,I2,T,gJ,f2,W,⟨m0,w0⟩,iT⟩:=h2;subst e;have gP:∀{H':Hp},(∀b∈fp,H' b=none)->∀b∈fp,CP X pins H' b:=λhn b hb=>#[hn b hb,(f2 b hb).2]
 refine codeAny_forLoop_any (λn s'=>Fb λi σ' H'=>Im (Inv X pins σ' H' s') (tn i s'.heap) (∀b∈fp,H' b=none) (W i n σ' H')) ?_ m0 #[0,σ,H2,I2,gJ,λb hb=>(f2 b hb).1,w0];rintro n s3 ⟨i,σ3,H3,I3,iV,fr3,w3⟩;rcases iT i n σ3 H3 w3 with⟨stop,qn⟩|⟨go,N,hN,step⟩
 ·refine wpAny_passesOwn hp (AU (T.done X rfl rfl rfl hc i pins s3 σ3 H3 X.xe I3 (gP fr3) iV stop) λr s4 ⟨hr,I4⟩=>?_);subst hr;exact wpAny_execs_nil #[σ3,H3,I4,qn]
 ·refine wpAny_passesOwn hp (AU (T.item X rfl rfl rfl hc i pins s3 σ3 H3 X.xe I3 (gP fr3) iV go) λr s4 ⟨u,hr,h4⟩=>?_);subst hr;refine wpAny_passesOwn hp (AU h4 λ_ s5 ⟨x,H5,I5,r5,y5,st5,fr5⟩=>?_);have I5':=I5.pinned (gP fr5) (T.obj _ _ st5);refine wpAny_passesOwn hp (AU (hg _ s5 σ3 H5 x u _ I5' r5 (step x H5 y5)) λ_ s6 ⟨σ6,H6,I6,q6⟩=>?_);refine wpAny_passesOwn hp (AU (hb _ s6 σ6 H6 _ I6 q6) λf s7 q7=>?_)
  have again:∀{σ7:St}{H7:Hp},Inv X (pins++Hd fp s5.heap) σ7 H7 s7->N σ7 H7->∃m,m<n/\Fb λi σ' H'=>Im (Inv X pins σ' H' s7) (tn i s7.heap) (∀b∈fp,H' b=none) (W i m σ' H'):=λ{σ7 H7} I7 n7=>by
   obtain⟨m',hm,w7⟩:=hN σ7 H7 n7;refine#[m',hm,i+1,σ7,H7,I7.unpinned,T.keep _ _ _ st5 λb hb o e=>(I7.pin (b,o) (zAE _ (zAE _ (DJ hb e)))).1,λb hb=>?_,w7];obtain⟨o,e,d⟩:=T.obj _ _ st5 b hb;exact (I7.pin (b,o) (zAE _ (zAE _ (DJ hb e)))).2.1
  cases f with
  |next=>obtain⟨σ7,H7,I7,n7⟩:=q7;exact again I7 n7
  |cont=>obtain⟨σ7,H7,I7,n7⟩:=q7;exact again I7 n7
  |brk=>obtain⟨σ7,H7,I7,q7⟩:=q7;exact#[σ7,H7,I7.unpinned,q7]
  |ret v=>obtain⟨x7,σ7,H7,I7,r7,q7⟩:=q7;exact#[x7,σ7,H7,I7.unpinned,r7,q7]
end
theorem A0{K:PySem.W.Frag}{a:Addr}{xs:List V}{g:TG}{tb:TS}{D:BJ}{σ:St}{H:Hp}(Pv:Nat->St->Hp->Prop)(h0:Pv 0 σ H)(hl:∀i σ H,i<=xs.length->Pv i σ H->SqL K H a xs)(hs:∀i x σ H,xs[i]? = some x->Pv i σ H->g x σ H λσ2 H2=>tb {D with nx:=Pv (i+1),ct:=Pv (i+1),bk:=D.nx} σ2 H2)(hd:∀σ H,Pv xs.length σ H->D.nx σ H):
  ∃W:Nat->Nat->St->Hp->Prop,(∃m,W 0 m σ H)/\∀i m σ H,W i m σ H->
   ((Va K a).stop i H/\D.nx σ H)\/((Va K a).go i H/\∃N:St->Hp->Prop,%[|97]/\∀x H',(Va K a).yld i H x H'->g x σ H' λσ2 H2=>tb {D with nx:=N,ct:=N,bk:=D.nx} σ2 H2):=by
 exists 610
theorem V5{K:PySem.W.Frag}{a:Addr}{xs:List V}{g:TG}{tb:TS}{D:BJ}{σ:St}{H:Hp}(Pv:Nat->St->Hp->Prop)(h0:Pv 0 σ H)(hl:∀i σ H,i<=xs.length->Pv i σ H->SqT K H a xs)(hs:∀i x σ H,xs[i]? = some x->Pv i σ H->g x σ H λσ2 H2=>tb {D with nx:=Pv (i+1),ct:=Pv (i+1),bk:=D.nx} σ2 H2)(hd:∀σ H,Pv xs.length σ H->D.nx σ H):
  ∃W:Nat->Nat->St->Hp->Prop,(∃m,W 0 m σ H)/\∀i m σ H,W i m σ H->
   ((ZH K a).stop i H/\D.nx σ H)\/((ZH K a).go i H/\∃N:St->Hp->Prop,%[|97]/\∀x H',(ZH K a).yld i H x H'->g x σ H' λσ2 H2=>tb {D with nx:=N,ct:=N,bk:=D.nx} σ2 H2):=by
 exists 610
theorem Bn{lo:Int}{n:Nat}{g:TG}{tb:TS}{D:BJ}{σ:St}{H:Hp}(Pv:Nat->St->Hp->Prop)(h0:Pv 0 σ H)(hs:∀i σ H,i<n->Pv i σ H->g (.int (lo+i)) σ H λσ2 H2=>tb {D with nx:=Pv (i+1),ct:=Pv (i+1),bk:=D.nx} σ2 H2)(hd:∀σ H,Pv n σ H->D.nx σ H):
  ∃W:Nat->Nat->St->Hp->Prop,(∃m,W 0 m σ H)/\∀i m σ H,W i m σ H->
   ((XX lo n).stop i H/\D.nx σ H)\/((XX lo n).go i H/\∃N:St->Hp->Prop,%[|97]/\∀x H',(XX lo n).yld i H x H'->g x σ H' λσ2 H2=>tb {D with nx:=N,ct:=N,bk:=D.nx} σ2 H2):=by
 refine#[λi m σ H=>m=n-i/\i<=n/\Pv i σ H,#[n,by simp,zA5 _,h0],?_];rintro i m σ H ⟨rfl,hi,p⟩;by_cases dQ:i<n
 ·refine .inr #[dQ,Pv (i+1),λσ' H' p'=>#[n-(i+1),by omega,rfl,dQ,p'],λx H' y=>?_];obtain⟨e,y⟩:=y;subst e y;exact hs i σ _ dQ p
 ·have e:i=n:=by omega
  subst e;exact .inl #[zAA _,hd σ H p]
abbrev R2:=V->V->Hp->VK->Prop
def Dy(X:Cx)(f:Value->Value->Sem Value)(r:R2):Prop:=
 ∀pins s(σ:St)H x y v u Q,%[|4]->RelV x v->RelV y u->r x y H Q->
  wpAny %[|18] X.A (f v u) %[|51] X.xe s
def bf(X:Cx)(f:Value->Sem Value)(r:V->Hp->VK->Prop):Prop:=
 ∀pins s(σ:St)H x v Q,%[|4]->RelV x v->r x H Q->
  wpAny %[|18] X.A (f v) %[|51] X.xe s
def Cf(X:Cx)(f:Value)(r:List V->Hp->VK->Prop):Prop:=
 ∀pins s(σ:St)H xs us Q,%[|4]->Vals xs us->r xs H Q->
  wpAny %[|18] X.A (call f us) %[|51] X.xe s
def bp(X:Cx)(r:V->Hp->(Bool->Hp->Prop)->Prop):Prop:=
 ∀pins s(σ:St)H x v(Q:Bool->Hp->Prop),%[|4]->RelV x v->r x H Q->
  wpAny %[|18] X.A (truthy v) (TP X pins σ Q) X.xe s
def Zv(r:R2)(ta tb:TE):TE:=λσ H Q=>ta σ H λx H1=>tb σ H1 λy H2=>r x y H2 Q
def cP(r:V->Hp->VK->Prop)(ta:TE):TE:=λσ H Q=>ta σ H λx H1=>r x H1 Q
def rI(C:Int->Int->Prop)(g:Int->Int->V):R2:=λx y H Q=>vI (λi=>vI (λj=>C i j/\Q (g i j) H) y) x
def Wk(g:Int->Int->V):R2:=λx y H Q=>vI (λi=>vI (λj=>Q (g i j) H) y) x
inductive rU(g:Int->V)(x:V)(H:Hp)(Q:VK):Prop|mk(i)(_:x=.int i)(_:Q (g i) H)
section
variable {X:Cx}{a b c:Expr}{ta tb tc:TE}{pos:Pos}
theorem Yh(ha:PE X a ta)(hb:PE X b tb){pins:%[|19]}{s:Shared}{σ:St}{H:Hp}{R:V->V->Hp->Prop}(I:%[|4])(h:ta σ H λx H1=>tb σ H1 λy H2=>R x y H2){Q:Value->Shared->Prop}{f:Value->Value->Sem Value}(hf:∀v u s2 x y H2,%[|16] H2 s2->RelV x v->RelV y u->R x y H2->%[|20] (f v u) Q X.xe s2):
  wpAny %[|18] X.A (eval a X.env) (λv s₁=>%[|20] (eval b X.env) (λu s₂=>%[|20] (f v u) Q X.xe s₂) X.xe s₁) X.xe s:=by
 refine AU %[|62] λv s1 ⟨x,H1,I1,r1,q1⟩=>?_
 refine AU (hb pins s1 σ H1 _ I1 q1) λu s2 ⟨y,H2,I2,r2,q2⟩=>?_
 exact hf v u s2 x y H2 I2 r1 r2 q2
theorem Ap(ho:Dy X (binaryOp op) r)(ha:PE X a ta)(hb:PE X b tb):PE X (.BinOp a op b pos) (Zv r ta tb):=by
 exists 0;exact wpAny_BinOp (Yh ha hb I h λv u s2 x y H2 I2 rx ry q=>ho pins s2 σ H2 x y v u Q I2 rx ry q)
theorem HJ(ho:bf X (unaryOp op) r)(ha:PE X a ta):PE X (.UnaryOp op a pos) (cP r ta):=by
 exists 0;exact UnaryOp_ (AU %[|62] λv s1 ⟨x,H1,I1,r1,q1⟩=>ho pins s1 σ H1 x v Q I1 r1 q1)
theorem YH{C:Int->Int->Prop}{g:Int->Int->Int}(rule:∀(i j:Int) (t u:Tok) (s:Shared) (Q:Value->Shared->Prop) (E:Value->Shared->Prop),C i j->Q (.int (g i j) s.toks) {s with toks:=s.toks+1}->%[|20] (f (.int i t) (.int j u)) Q E s):
  Dy X f (rI C λi j=>.int (g i j)):=by
 exists 2;obtain⟨i,rfl,h0⟩:=FC h;obtain⟨j,rfl,hc,q⟩:=FC h0;exists 3;obtain⟨t',rfl⟩:=ry;exact rule i j t t' s _ _ hc #[.int (g i j),H,I.tok _,#[_,rfl],q]
theorem Yd{g:Int->Int->Int}(rule:∀(i j:Int) (t u:Tok) (s:Shared) (Q:Value->Shared->Prop) (E:Value->Shared->Prop),Q (.int (g i j) s.toks) {s with toks:=s.toks+1}->%[|20] (f (.int i t) (.int j u)) Q E s):
  Dy X f (Wk λi j=>.int (g i j)):=by
 exists 2;obtain⟨i,rfl,h0⟩:=FC h;obtain⟨j,rfl,q⟩:=FC h0;exists 3;obtain⟨t',rfl⟩:=ry;exact rule i j t t' s _ _ #[.int (g i j),H,I.tok _,#[_,rfl],q]
theorem W4{g:Int->Int->Bool}(rule:∀(i j:Int) (t u:Tok) (s:Shared) (Q:Value->Shared->Prop) (E:Value->Shared->Prop),Q (.bool (g i j)) s->%[|20] (f (.int i t) (.int j u)) Q E s):
  Dy X f (Wk λi j=>.bl (g i j)):=by
 exists 2;obtain⟨i,rfl,h0⟩:=FC h;obtain⟨j,rfl,q⟩:=FC h0;exists 3;obtain⟨t',rfl⟩:=ry;exact rule i j t t' s _ _ #[.bl (g i j),H,I,rfl,q]
def cb(i j:Int):Prop:=0<j/\j<1073741824
def ax(i j:Int):Prop:=0<=j/\j<=1000000/\i.natAbs<2^64
def CMul(i j:Int):Prop:=(-(2^64)<i/\i<2^64)\/(-(2^64)<j/\j<2^64)
theorem CMul.ok(h:CMul i j):IntMulOk i j:=by
 rcases h with⟨h1,h2⟩|⟨h1,h2⟩
 ·exact .of_left (intBits_le_64 h1 h2)
 ·exact .of_right (intBits_le_64 h1 h2)
theorem Nv(k:Nat):(0:Int)<=2^k:=by
 rw[two_pow_cast];exact Int.natCast_nonneg _
theorem C2:Dy X (binaryOp .Add) (Wk λi j=>.int (i+j)):=Yd λ_ _ _ _ _ _ _ q=>add_int q
theorem JN:Dy X (binaryOp .Sub) (Wk λi j=>.int (i-j)):=Yd λ_ _ _ _ _ _ _ q=>sub_int q
theorem HP:Dy X (binaryOp .Mult) (rI CMul λi j=>.int (i*j)):=YH λ_ _ _ _ _ _ _ hc q=>mul_int q hc.ok
theorem Bf:Dy X (binaryOp .FloorDiv) (rI cb λi j=>.int (i / j)):=YH λi j _ _ _ _ _ hc q=>by
 have h1:(0:Int)<j:=hc.1;have h2:j<1073741824:=hc.2;exact floordiv_int %[|0] (by rw[zCN i %[|0]];exact q) (.inl (PyProof.noPylong_small %[|0]))
theorem A4:Dy X (binaryOp .Mod) (rI (λ_ j=>0<j) λi j=>.int (i%j)):=YH λi j _ _ _ _ _ hc q=>by
 have h1:(0:Int)<j:=hc;exact mod_int' %[|0] (by rw[Int.fmod_eq_emod_of_nonneg i %[|0]];exact q)
theorem E4:Dy X (binaryOp .Pow) (rI ax λi j=>.int (i^j.toNat)):=YH λ_ _ _ _ _ _ _ hc q=>pow_int_small hc.1 hc.2.1 hc.2.2 q
theorem XZ:Dy X (binaryOp .LShift) (rI ax λi j=>.int (i*2^j.toNat)):=YH λ_ _ _ _ _ _ _ hc q=>lshift_int_small hc.1 hc.2.1 hc.2.2 q
theorem X8:Dy X (binaryOp .RShift) (rI (λ_ j=>0<=j) λi j=>.int (i / 2^j.toNat)):=YH λi j _ _ _ _ _ hc q=>
 rshift_int hc (by rw[zCN i (Nv _)];exact q)
theorem Y3:Dy X (binaryOp .BitAnd) (Wk λi j=>.int (Builtin.bitAnd i j)):=Yd λ_ _ _ _ _ _ _ q=>and_int q
theorem cE{g:Int->Int}(rule:∀(i:Int) (t:Tok) (s:Shared) (Q:Value->Shared->Prop) (E:Value->Shared->Prop),Q (.int (g i) s.toks) {s with toks:=s.toks+1}->%[|20] (f (.int i t)) Q E s):
  bf X f (rU λi=>.int (g i)):=by
 intro pins s σ H x v Q I rx h;obtain⟨i,rfl,q⟩:=h;exists 3;exact rule i t s _ _ #[.int (g i),H,I.tok _,#[_,rfl],q]
theorem EY:bf X (unaryOp .USub) (rU λi=>.int (-i)):=cE λ_ _ _ _ _ q=>neg_int q
end
def ZA:V->V->Bool
 |.non,.non=>true|.non,.int _=>true|.int _,.non=>true|.non,.bl _=>true|.bl _,.non=>true|.non,.str _=>true|.str _,.non=>true
 |.int _,.int _=>true|.bl _,.bl _=>true|.str _,.str _=>true|.byt _,.byt _=>true
 |.int _,.str _=>true|.str _,.int _=>true|.bl _,.str _=>true|.str _,.bl _=>true
 |_,_=>false
def cV:R2:=λx y H Q=>ZA x y=true/\Q (.bl (decide (x=y))) H
def cR:R2:=λx y H Q=>ZA x y=true/\Q (.bl (!decide (x=y))) H
theorem Pa:decide (V.int i=V.int j)=(i == j):=by
 rw[zA4];simp
theorem U6:decide (V.bl i=V.bl j)=(i == j):=by
 rw[zA4];simp
theorem PK:decide (V.str i=V.str j)=(i == j):=by
 rw[zA4];simp
theorem PN:decide (V.byt i=V.byt j)=(i.toList == j.toList):=by
 rw[zA4];cases i;cases j;simp
section
variable {X:Cx}{a b c:Expr}{ta tb tc:TE}{pos:Pos}
theorem A5(I:%[|4])(q:Q (.bl k) H)(e:k=k'):EP X pins σ Q (.bool k') s:=by
 subst e;exact#[.bl k,H,I,rfl,q]
theorem AH:Dy X (compareOp .Eq) cV:=by
 exists 2;obtain⟨hs,q⟩:=h
 cases x with
 |non=>
  cases rx
  cases y with
  |non=>cases ry;exact PySem.EqNone.eq_none_none (%[|40])
  |bl j=>cases ry;exact PySem.EqNone.eq_none_bool (%[|40])
  |int j=>obtain⟨t',rfl⟩:=ry;exact PySem.EqNone.eq_none_int (%[|40])
  |str j=>obtain⟨t',rfl⟩:=ry;exact PySem.EqNone.eq_none_str (%[|40])
  |_=>exact absurd (show false=true from hs) zAG
 |bl i=>
  cases rx
  cases y with
  |non=>cases ry;exact PySem.EqNone.eq_bool_none (%[|40])
  |bl j=>cases ry;exact eq_bool (A5 I q U6)
  |str j=>obtain⟨t',rfl⟩:=ry;exact PySem.EqMixed.eq_bool_str (%[|40])
  |_=>exact absurd (show false=true from hs) zAG
 |int i=>
  exists 3
  cases y with
  |non=>cases ry;exact PySem.EqNone.eq_int_none (%[|40])
  |int j=>obtain⟨t',rfl⟩:=ry;exact eq_int (A5 I q Pa)
  |str j=>obtain⟨t',rfl⟩:=ry;exact PySem.EqMixed.eq_int_str (%[|40])
  |_=>exact absurd (show false=true from hs) zAG
 |str i=>
  exists 3
  cases y with
  |non=>cases ry;exact PySem.EqNone.eq_str_none (%[|40])
  |bl j=>cases ry;exact PySem.EqMixed.eq_str_bool (%[|40])
  |int j=>obtain⟨t',rfl⟩:=ry;exact PySem.EqMixed.eq_str_int (%[|40])
  |str j=>obtain⟨t',rfl⟩:=ry;exact eq_str (A5 I q PK)
  |_=>exact absurd (show false=true from hs) zAG
 |byt i=>
  exists 3
  cases y with
  |byt j=>obtain⟨t',rfl⟩:=ry;exact PySem.W.eq_bytes (A5 I q PN)
  |_=>exact absurd (show false=true from hs) zAG
 |_=>cases y<;>exact absurd (show false=true from hs) zAG
theorem ER:Dy X (compareOp .NotEq) cR:=by
 exists 2;obtain⟨hs,q⟩:=h
 cases x with
 |non=>
  cases rx
  cases y with
  |non=>cases ry;exact PySem.EqNone.ne_none_none (%[|40])
  |bl j=>cases ry;exact PySem.EqNone.ne_none_bool (%[|40])
  |int j=>obtain⟨t',rfl⟩:=ry;exact PySem.EqNone.ne_none_int (%[|40])
  |str j=>obtain⟨t',rfl⟩:=ry;exact PySem.EqNone.ne_none_str (%[|40])
  |_=>exact absurd (show false=true from hs) zAG
 |bl i=>
  cases rx
  cases y with
  |non=>cases ry;exact PySem.EqNone.ne_bool_none (%[|40])
  |bl j=>cases ry;exact ne_bool (A5 I q (congrArg not U6))
  |str j=>obtain⟨t',rfl⟩:=ry;exact PySem.EqMixed.ne_bool_str (%[|40])
  |_=>exact absurd (show false=true from hs) zAG
 |int i=>
  exists 3
  cases y with
  |non=>cases ry;exact PySem.EqNone.ne_int_none (%[|40])
  |int j=>obtain⟨t',rfl⟩:=ry;exact ne_int (A5 I q (congrArg not Pa))
  |str j=>obtain⟨t',rfl⟩:=ry;exact PySem.EqMixed.ne_int_str (%[|40])
  |_=>exact absurd (show false=true from hs) zAG
 |str i=>
  exists 3
  cases y with
  |non=>cases ry;exact PySem.EqNone.ne_str_none (%[|40])
  |bl j=>cases ry;exact PySem.EqMixed.ne_str_bool (%[|40])
  |int j=>obtain⟨t',rfl⟩:=ry;exact PySem.EqMixed.ne_str_int (%[|40])
  |str j=>obtain⟨t',rfl⟩:=ry;exact ne_str (A5 I q (congrArg not PK))
  |_=>exact absurd (show false=true from hs) zAG
 |byt i=>
  exists 3
  cases y with
  |byt j=>obtain⟨t',rfl⟩:=ry;exact PySem.W.ne_bytes (A5 I q (congrArg not PN))
  |_=>exact absurd (show false=true from hs) zAG
 |_=>cases y<;>exact absurd (show false=true from hs) zAG
theorem L8:Dy X (compareOp .Lt) (Wk λi j=>.bl (decide (i<j))):=W4 λ_ _ _ _ _ _ _ q=>lt_int q
theorem XN:Dy X (compareOp .LtE) (Wk λi j=>.bl (decide (i<=j))):=W4 λ_ _ _ _ _ _ _ q=>le_int q
theorem IC:Dy X (compareOp .Gt) (Wk λi j=>.bl (decide (j<i))):=W4 λ_ _ _ _ _ _ _ q=>gt_int q
theorem Uq:Dy X (compareOp .GtE) (Wk λi j=>.bl (decide (j<=i))):=W4 λ_ _ _ _ _ _ _ q=>ge_int q
inductive Gj(x:V)(y:V)(H:Hp)(Q:VK):Prop|mk(i j)(_:x=.str i)(_:y=.str j)(_:Q (.bl (!(Builtin.Str.occurrences j i 0 j.length 1).isEmpty)) H)
theorem Ry:Dy X (compareOp .In) (Gj):=by
 exists 2;obtain⟨i,j,rfl,rfl,q⟩:=h;exists 3;obtain⟨t',rfl⟩:=ry;exact in_str (A5 I q rfl)
theorem Cl(b:Expr)(h:op≠.In:=by decide)(h2:op≠.NotIn:=by decide):behindInMarks op b=false:=by
 have e1:(op == CmpOp.In)=false:=by cases op<;>first|rfl|exact absurd rfl h
 have e2:(op == CmpOp.NotIn)=false:=by cases op<;>first|rfl|exact absurd rfl h2
 cases b<;>simp[behindInMarks,e1,e2]
theorem BF(ho:Dy X (compareOp op) r)(ha:PE X a ta)(hb:PE X b tb)(hm:behindInMarks op b=false):PE X (.Compare a [op] [b] pos) (Zv r ta tb):=by
 exists 0;exact wpAny_Compare1 (Yh ha hb I h λv u s2 x y H2 I2 rx ry q=>ho pins s2 σ H2 x y v u Q I2 rx ry q) hm
def TQ(Q:Bool->Hp->Prop)(x:V)(H':Hp):Prop:=vB (λk=>Q k H') x
def UX(t:TE):TT:=λσ H Q=>t σ H (TQ Q)
theorem Cp(ho:Dy X (compareOp op) r)(ha:PE X a ta)(hb:PE X b tb)(hm:behindInMarks op b=false):PT X (.Compare a [op] [b] pos) (UX (Zv r ta tb)):=by
 exists 0
 refine wpAny_isTrue_Compare1 (AU %[|62] λv s1 ⟨x,H1,I1,r1,q1⟩=>AU (hb pins s1 σ H1 _ I1 q1) λu s2 ⟨y,H2,I2,r2,q2⟩=>
  AU (ho pins s2 σ H2 x y v u _ I2 r1 r2 q2) λc s3 ⟨z,H3,I3,r3,q3⟩=>?_) hm
 obtain⟨k,rfl,q3'⟩:=G9 q3;cases r3;exact wpAny_truthy_bool #[H3,I3,q3']
inductive N8(r':R2)(tc:TE)(σ:St)(Q:VK)(y:V)(z:V)(H3:Hp):Prop|mk(k)(_:z=.bl k)(_:If k (tc σ H3 λw' H4=>r' y w' H4 Q) (Q (.bl false) H3))
def Yq(r r':R2)(ta tb tc:TE):TE:=λσ H Q=>ta σ H λx H1=>tb σ H1 λy H2=>r x y H2 (N8 r' tc σ Q y)
theorem UJ(ho:Dy X (compareOp op) r)(gN:Dy X (compareOp op') r')(ha:PE X a ta)(hb:PE X b tb)(hc:PE X c tc)(hm:lastMarks [op,op'] [b,c]=false:=by with_unfolding_all rfl):PT X (.Compare a [op,op'] [b,c] pos) (UX (Yq r r' ta tb tc)):=by
 exists 0
 refine isTrue_chain (AU %[|62] λv s1 ⟨x,H1,I1,r1,q1⟩=>test_link (AU (hb pins s1 σ H1 _ I1 q1) λu s2 ⟨y,H2,I2,r2,q2⟩=>
  AU (ho pins s2 σ H2 x y v u _ I2 r1 r2 q2) λd s3 ⟨z,H3,I3,r3,k,e,q3⟩=>?_)) hm
 subst e;cases r3;refine wpAny_truthy_bool ?_
 cases k with
 |false=>
  exact ite_ff #[H3,I3,q3.f]
 |true=>
  refine ite_tt (test_last (AU (hc pins s3 σ H3 _ I3 q3.t) λw' s4 ⟨z',H4,I4,r4,q4⟩=>AU (gN pins s4 σ H4 y z' u w' _ I4 r2 r4 q4) λd' s5 ⟨z2,H5,I5,r5,q5⟩=>?_));obtain⟨k2,rfl,q5'⟩:=G9 q5;cases r5;exact wpAny_truthy_bool #[H5,I5,q5']
def ZL(K:PySem.W.Frag)(x:V)(H:Hp)(k:Bool):Prop:=
 match x with
 |.non=>k=false
 |.bl b=>k=b
 |.int i=>k=(i != 0)
 |.str y=>y.length<=sizeLine/\k=((y.length:Int) != 0)
 |.byt y=>y.size<=sizeLine/\k=((y.size:Int) != 0)
 |.ref p=>(∃xs,SqL K H p xs/\k = !xs.isEmpty)\/(∃xs,SqT K H p xs/\k = !xs.isEmpty)\/∃kvs,H p=some (.dK kvs)/\k = !kvs.isEmpty
 |_=>False
theorem Nc{κ:Type}{kvs:List (κ×V)}{vs:List (κ×Value)}(r:KV kvs vs):(!vs.isEmpty) = !kvs.isEmpty:=by
 cases r<;>rfl
theorem Ic(r:Vals xs its):(!its.toArray.isEmpty) = !xs.isEmpty:=by
 cases r<;>simp
theorem EX:(sizeLine:Nat)<2^63:=by rw[sizeLine_eq];decide
theorem Y4:bp X (λx H Q=>∃k,ZL X.K x H k/\Q k H):=by
 intro pins s σ H x v Q I rx h;obtain⟨k,e,q⟩:=h;have hl:=EX;have hs:sizeLine=16777216:=sizeLine_eq
 cases x with
 |non=>
  cases rx;have e':k=false:=e;subst e';exact truthy_none #[H,I,q]
 |bl b=>
  cases rx;have e':k=b:=e;subst e';exact wpAny_truthy_bool #[H,I,q]
 |int i=>
  exists 3;have e':k=(i != 0):=e;subst e';exact PySem.P.truthy_int #[H,I,q]
 |str y=>
  exists 3;obtain⟨hy,e'⟩:y.length<=sizeLine/\k=((y.length:Int) != 0):=e;subst e';exact PySem.P.truthy_str %[|0] #[H,I.tok _,q]
 |byt y=>
  exists 3;obtain⟨hy,e'⟩:y.size<=sizeLine/\k=((y.size:Int) != 0):=e;subst e';exact PySem.W.truthy_bytes %[|0] #[H,I.tok _,q]
 |ref p=>
  cases rx;have e':(∃xs,SqL X.K H p xs/\k = !xs.isEmpty)\/(∃xs,SqT X.K H p xs/\k = !xs.isEmpty)\/∃kvs,H p=some (.dK kvs)/\k = !kvs.isEmpty:=e;rcases e' with⟨xs,hx,e'⟩|⟨xs,hx,e'⟩|⟨kvs,hx,e'⟩
  ·subst e';obtain⟨its,r,pl,hz⟩:=I.list hx;have dj:=r.length;exact wpAny_truthy_list pl.isList (by simp only[zAK];omega) #[H,I.tok _,by rw[Ic r];exact q]
  ·subst e';obtain⟨its,r,pl,hz⟩:=I.tuple hx;have dj:=r.length;exact truthy_tuple pl (by simp only[zAK];omega) #[H,I.tok _,by rw[Ic r];exact q]
  ·subst e';obtain⟨hz,hS,vs,r,m⟩:kvs.length<=sizeLine/\(p == sysModules)=false/\∃vs,KV kvs vs/\s.heap.DictOf (CG X.prog X.w) p vs:=I.hok p _ hx;have dj:kvs.length=vs.length:=zBV r;exact wpAny_truthy_dict hS m %[|0] #[H,I.tok _,by rw[Nc r];exact q]
 |_=>exact (show False from e).elim
theorem B6(ha:PE X a ta)(he:∀fz,isTrue a X.env fz=(do let v <-fz;standAt a.pos;holding [v] (truthy v))):
  PT X a (λσ H Q=>ta σ H λx H'=>∃k,ZL X.K x H' k/\Q k H'):=by
 exists 0;exact isTrue_plain (AU %[|62] λv s1 ⟨x,H1,I1,r1,q1⟩=>Y4 pins s1 σ H1 x v Q I1 r1 q1) (he _)
def Kg:R2:=λx y H Q=>vS (λi=>vS (λj=>i.length+j.length<=sizeLine/\Q (.str (i++j)) H) y) x
theorem A6:Dy X (binaryOp .Add) (Kg):=by
 exists 2;obtain⟨i,rfl,h0⟩:=Tl h;obtain⟨j,rfl,hz,q⟩:=Tl h0;exists 3;obtain⟨t',rfl⟩:=ry;exact add_str (λt' tk=>#[.str (i++j),H,I.tok _,#[_,rfl],q]) hz
theorem C3(r:Vals [x] us):∃u,us=[u]/\RelV x u:=by
 cases r with
 |cons r1 r2=>cases r2;exact#[_,rfl,r1]
theorem Xi(r:Vals [x,y] us):Cd λu w'=>BV (us=[u,w']) (RelV x u) (RelV y w'):=by
 cases r with
 |cons r1 r2=>
  cases r2 with
  |cons r3 r4=>cases r4;exact#[_,_,rfl,r1,r3]
inductive Ih(xs:List V)(H:Hp)(Q:VK):Prop|mk(i)(_:xs=[.int i])(_:Q (.int (if i<0 then -i else i)) H)
theorem Sy:Cf X (.builtin "abs") (Ih):=by
 exists 4;obtain⟨i,rfl,q⟩:=h;obtain⟨u,rfl,t,rfl⟩:=C3 r;exact call_abs_int λu tk=>#[.int (if i<0 then -i else i),H,I.tok _,#[_,rfl],q]
inductive Gq(xs:List V)(H:Hp)(Q:VK):Prop|mk(i j)(_:xs=[.int i,.int j])(_:Q (.int (if j<i then j else i)) H)
theorem Qj(hc:X.calm=true):Cf X (.builtin "min") (Gq):=by
 exists 4;obtain⟨i,j,rfl,q⟩:=h;obtain⟨u,w',rfl,⟨t,rfl⟩,⟨t',rfl⟩⟩:=Xi r;refine min_two_ints (I.ok.hd hc) λh' tk k=>#[_,H,I.kept k,?_,q]
 by_cases hj:j<i
 ·rw[if_pos hj,if_pos hj];exact#[_,rfl]
 ·rw[if_neg hj,if_neg hj];exact#[_,rfl]
end
structure ObjM(h:Heap)(x dx C:Addr)(mA:Str->%[|14]):Prop where
 obj:h.get? x=some (PySem.W.instObj C dx)
 ns:h.Ns1 dx mA
 ne:dx≠x
theorem Rh{h:Heap}{dx:Addr}{mA:Str->%[|14]}(n:h.Ns1 dx mA):∃od,h.get? dx=some od/\∀name,PySem.W.lookIn name od=some (mA name):=by
 obtain⟨o,es,ep,ho,hd,hk,_,hm⟩:=n;refine#[o,ho,λname=>?_];have e:=hm name;unfold nsFind findBy at e;rw[<-Array.find?_toList]at e;unfold PySem.W.lookIn;rw[hd];dsimp only;split
 ·rename_i y q;rw[q]at e;exact congrArg some e
 ·rename_i q;rw[q]at e
  have a:es.toList.any (·.refKey)=false:=by
   rw[List.any_eq_false];intro y hy;obtain⟨z,t,iW⟩:=hk y (Array.mem_toList_iff.mp hy);simp[DictEntry.refKey,iW]
  have a':¬es.toList.any (·.refKey)=true:=by rw[a];exact zAG
  rw[if_neg a'];exact congrArg some e
theorem ObjM.look(I:ObjM h x dx C mA):∃od,PySem.W.InstAt h x (PySem.W.instObj C dx) C (some od)/\∀name,PySem.W.lookIn name od=some (mA name):=
 let ⟨od,ho,hl⟩:=Rh I.ns
 #[od,#[I.obj,rfl,rfl,ho],hl]
section
variable {prog:Program}{w:World}{A:Around}{E:Value->Shared->Prop}{s:Shared}{K:PySem.W.Frag}{x dx C f:Addr}{mA:Str->%[|14]}{name:Str}{v:Value}
theorem VB(X:K.In s.heap)(I:ObjM s.heap x dx C mA)(hg:PySem.W.plainGet K C name=true)(hh:PySem.W.hasDictIn K C=true)(ha:PySem.W.findIn K (.ref C) name=some none)(hv:mA name=some v)(hv':PySem.W.handedIn v=true)(h:Q v {s with toks:=s.toks+1}):
  wpAny %[|33] A (getAttr (.ref x) name expr) Q E s:=by
 obtain⟨od,J,hl⟩:=I.look;exact PySem.W.get_value X J (zDF hg).1 (PySem.W.findObj_own hh ha rfl (by rw[hl,hv])) hv' h
theorem RI(X:K.In s.heap)(I:ObjM s.heap x dx C mA)(hg:PySem.W.plainGet K C name=true)(hf:PySem.W.findIn K (.ref C) name=some (some (.ref f)))(ht:PySem.W.isFn K (.ref f)=true)(hv:mA name=none)(h:Q (.ref f,[.ref x]) s):
  wpAny %[|33] A (getMethod (.ref x) name pl) Q E s:=by
 obtain⟨od,J,hl⟩:=I.look;exact PySem.W.method_fn X J (zDF hg).1 (zDF hg).2 hf (beq_iff_eq.mp ht) (by show (PySem.W.lookIn name od).map (·.isSome)=some false;rw[hl,hv];rfl) h
theorem Wy(X:K.In s.heap)(I:ObjM s.heap x dx C mA)(hs:PySem.W.findIn K (.ref C) "__setattr__"=some %[|93])(hp:PySem.W.plainOver K C=true)(ht:PySem.W.takerIn K C name=some none)(hh:PySem.W.hasDictIn K C=true)(hw:PySem.Within mA ns)(hsz:ns.length<=sizeLine)(h:∀h',ObjM h' x dx C (λy=>if y=name then some v else mA y)->Heap.SameBut dx s.heap h'->Q () {s with heap:=h',toks:=s.toks+2}):
  wpAny %[|33] A (setAttr (.ref x) name v) Q E s:=by
 obtain⟨od,J,hl⟩:=I.look;refine PySem.W.set_plain X J hs (PySem.W.osa_open (s:={s with toks:=s.toks+1}) (r:=none) X J hp ht λb=>?_);obtain⟨cd,hc,hd'⟩:=PySem.W.any_some hh;have hx:s.heap.get? x=some #[.ref C,some dx,.plain,#v[]]:=I.obj;refine wpAny_bind (wpAny_pure (wpAny_bind (wpAny_bind (wpAny_loadPart hx (wpAny_bind (PySem.W.Looks.here (s:={s with toks:=s.toks+1}) (PySem.W.looks_clsIn X hc) ?_))))));rw[hd'];refine wpAny_pure (a:=some dx) (wpAny_bind (wpAny_pure (wpAny_bind ?_)));refine wpAny_nsSet1 (s:={s with toks:=s.toks+1}) I.ns λh' iw jz=>?_
 obtain⟨oD,esD,epD,hoD,hdD,hcD⟩:=iw.count (PySem.Within.cons name v hw);refine wpAny_bind (wpAny_lookBehind hoD (by rw[hdD];exact pastItsLine_dict (zAC hcD (by rw[zAO];omega))) ?_);exact wpAny_pure (h _ #[(jz.2 _ (zB I.ne)).trans I.obj,iw,I.ne] jz)
theorem Sm(X:K.In s.heap)(hm:PySem.W.makesIn K C=true)(hi:PySem.W.findIn K (.ref C) "__init__"=some (some (.ref f)))(hf:PySem.W.typeIn K (.ref f)=some (.type "function"))(h:codeAny %[|33] (A.under (.builtin "type.__call__" #[.ref C::vs,kw])) (.call (.ref f) #[.ref %[|41]::vs,kw]) (PySem.W.InitBack %[|41] R)
   {s with heap:=(s.heap.push PySem.W.emptyDict).push (PySem.W.instObj C s.heap.objs.size)}):
  codeAny %[|33] A (.call (.ref C) #[vs,kw]) R s:=by
 obtain⟨hh,g,d,t,os⟩:=s;exact PySem.W.make_core (PySem.W.makes_of X hm) (PySem.W.looks_findIn X hi) (λself=>PySem.W.bind_fn X self hf) (.inl rfl) h
end
def BY(f:Str)(v:V):List (Str×V)->List (Str×V)
 |[]=>[(f,v)]
 |(g,x)::r=>if g=f then (g,v)::r else (g,x)::BY f v r
theorem Gi(f g:Str)(v:V):∀fs:List (Str×V),(BY f v fs).lookup g=if g=f then some v else fs.lookup g
 |[]=>by
  show List.lookup g [(f,v)]=_;by_cases h:g=f
  ·have hb:(g == f)=true:=beq_iff_eq.mpr h;simp only[List.lookup,hb,if_pos h]
  ·have hb:(g == f)=false:=beq_eq_false_iff_ne.mpr h;simp only[List.lookup,hb,if_neg h]
 |(k,x)::r=>by
  have ih:=Gi f g v r;rw[show BY f v ((k,x)::r)=(if k=f then (k,v)::r else (k,x)::BY f v r) from rfl];by_cases hk:k=f
  ·rw[if_pos hk];by_cases h:g=k
   ·have hb:(g == k)=true:=beq_iff_eq.mpr h;simp only[List.lookup,hb,if_pos (h.trans hk)]
   ·have hb:(g == k)=false:=beq_eq_false_iff_ne.mpr h;simp only[List.lookup,hb,if_neg (λe:g=f=>h (e.trans hk.symm))]
  ·rw[if_neg hk];by_cases h:g=k
   ·have hb:(g == k)=true:=beq_iff_eq.mpr h;simp only[List.lookup,hb,if_neg (λe:g=f=>hk (h.symm.trans e))]
   ·have hb:(g == k)=false:=beq_eq_false_iff_ne.mpr h;simp only[List.lookup,hb];exact ih
theorem F1(f:Str)(v:V):∀fs:List (Str×V),f∈(BY f v fs).map (·.1)/\∀g,g∈fs.map (·.1)->g∈(BY f v fs).map (·.1)
 |[]=>#[by simp[BY],λg h=>by simp at h]
 |(k,x)::r=>by
  obtain⟨i1,i2⟩:=F1 f v r;rw[show BY f v ((k,x)::r)=(if k=f then (k,v)::r else (k,x)::BY f v r) from rfl];by_cases hk:k=f
  ·rw[if_pos hk];subst hk;exact#[by simp,λg h=>by simpa using h]
  ·rw[if_neg hk];refine#[?_,λg h=>?_]
   ·rw[zAS];exact List.mem_cons_of_mem _ i1
   ·rw[zAS]at h ⊢;rcases List.mem_cons.mp h with e|e
    ·exact List.mem_cons.mpr (.inl e)
    ·exact List.mem_cons_of_mem _ (i2 g e)
theorem Gv(f:Str)(v:V):∀fs:List (Str×V),(BY f v fs).length<=fs.length+1
 |[]=>by simp[BY]
 |(k,x)::r=>by
  have ih:=Gv f v r;rw[show BY f v ((k,x)::r)=(if k=f then (k,v)::r else (k,x)::BY f v r) from rfl];by_cases hk:k=f
  ·rw[if_pos hk,zAO,zAO];omega
  ·rw[if_neg hk,zAO,zAO];omega
theorem A1N.some_of(r:A1N (some v) o):∃u,o=some u/\RelV v u:=by
 cases o with
 |none=>exact (show False from r).elim
 |some u=>exact#[u,rfl,r]
theorem A1N.none_of(r:A1N none o):o=none:=by
 cases o with
 |none=>rfl
 |some u=>exact (show False from r).elim
theorem QX(r:RelV v u):PySem.W.handedIn u=true:=by
 cases v with
 |non=>cases (show u=Value.none from r);rfl
 |bl b=>cases (show u=Value.bool b from r);rfl
 |int i=>obtain⟨t,e⟩:=(show ∃t,u=Value.int i t from r);cases e;rfl
 |str x=>obtain⟨t,e⟩:=(show ∃t,u=Value.str x t from r);cases e;rfl
 |byt b=>obtain⟨t,e⟩:=(show ∃t,u=Value.bytes b t from r);cases e;rfl
 |flt b=>obtain⟨t,e⟩:=(show ∃t,u=Value.float b t from r);cases e;rfl
 |ref a=>cases (show u=Value.ref a from r);rfl
 |ty n=>cases (show u=Value.type n from r);rfl
section
variable {P:Program}{w:World}{H H':Hp}{h h':Heap}{a C dx:Addr}{fs fs':List (Str×V)}
theorem GN(hok:HOk P w H h)(e:H a=some (.ins C dx fs)):∃mA,Il (ObjM h a dx C mA) (∀f,A1N (fs.lookup f) (mA f)) (PySem.Within mA (fs.map (·.1))) (fs.length<=1000) (H dx=some (.own a)):=by
 obtain⟨d,z,ne,ob,mA,n,r,q⟩:=(show A0Q P w H h a (.ins C dx fs) from hok a _ e);exact#[mA,#[ob,n,ne],r,q,z,d]
end
structure Cls(K:PySem.W.Frag)(C:Addr):Prop where
 pg:PySem.W.plainGet K C Str.empty=true
 hd:PySem.W.hasDictIn K C=true
 po:PySem.W.plainOver K C=true
 sa:PySem.W.findIn K (.ref C) "__setattr__"=some %[|93]
theorem Cls.get{K:PySem.W.Frag}(c:Cls K C)(f:Str):PySem.W.plainGet K C f=true:=c.pg
def A0R(K:PySem.W.Frag)(C:Addr)(f:Str):Prop:=PySem.W.findIn K (.ref C) f=some none
theorem A0R.taker{K:PySem.W.Frag}(n:A0R K C f):PySem.W.takerIn K C f=some none:=by
 unfold PySem.W.takerIn;rw[show PySem.W.findIn K (.ref C) f=some none from n];rfl
structure Uh(K:PySem.W.Frag)(C:Addr)(m:Str)(f:Addr):Prop where
 at_:PySem.W.findIn K (.ref C) m=some (some (.ref f))
 fn:PySem.W.isFn K (.ref f)=true
 kp:PySem.W.keepIn K (.ref f)=true
section
variable {X:Cx}{pins:%[|19]}{σ:St}{H:Hp}{s:Shared}{a C dx:Addr}{fs:List (Str×V)}{f:Str}{v:V}{A:Around}{E:Value->Shared->Prop}
theorem Nk(I:%[|4])(e:H a=some (.ins C dx fs))(c:Cls X.K C)(n:A0R X.K C f)(l:fs.lookup f=some v)(h:∀u s',%[|16] H s'->RelV v u->Q u s'):wpAny %[|18] A (getAttr (.ref a) f b) Q E s:=by
 obtain⟨mA,O,r,_,_,_⟩:=GN I.hok e;obtain⟨u,hu,ru⟩:=A1N.some_of (v:=v) (o:=mA f) (by rw[<-l];exact r f);exact VB I.kIn O (c.get f) c.hd n hu (QX ru) (h u _ (I.tok _) ru)
theorem GZ(I:%[|4])(e:H a=some (.ins C dx fs))(c:Cls X.K C)(k:Uh X.K C m g)(l:fs.lookup m=none)(h:Q (.ref g,[.ref a]) s):wpAny %[|18] A (getMethod (.ref a) m pl) Q E s:=by
 obtain⟨mA,O,r,_,_,_⟩:=GN I.hok e;have hn:mA m=none:=A1N.none_of (by rw[<-l];exact r m);exact RI I.kIn O (c.get m) k.at_ k.fn hn h
theorem NO(I:%[|4])(e:H a=some (.ins C dx fs))(c:Cls X.K C)(n:A0R X.K C f)(hl:fs.length<1000)(ry:RelV y u)(h:∀s',%[|16] (upd H a (.ins C dx (BY f y fs))) s'->Q () s'):wpAny %[|18] A (setAttr (.ref a) f u) Q E s:=by
 obtain⟨mA,O,r,wi,_,ho⟩:=GN I.hok e;have hz:(fs.map (·.1)).length<=sizeLine:=by rw[List.length_map,sizeLine_eq];omega
 refine Wy I.kIn O c.sa c.po n.taker c.hd wi hz λh' O' sb=>h _ ?_
 have hd:∃o,h'.get? dx=some o:=let ⟨o,_,_,e',_⟩:=O'.ns;#[o,e']
 refine I.write (x:=a) (e:=dx) (by rw[e];exact True.intro) (.inr ho) (λb q hb z=>(sb.2 b hb).trans z) hd ?_;refine#[by rw[Af O.ne];exact ho,?_,O.ne,O'.obj,_,O'.ns,λg=>?_,λg hg=>?_]
 ·have:=Gv f y fs;omega
 ·show A1N ((BY f y fs).lookup g) (if g=f then some u else mA g);rw[Gi];by_cases q:g=f
  ·rw[if_pos q,if_pos q];exact ry
  ·rw[if_neg q,if_neg q];exact r g
 ·by_cases q:g=f
  ·rw[q];exact (F1 f y fs).1
  ·refine (F1 f y fs).2 g (wi g λz=>hg ?_);show (if g=f then some u else mA g)=none;rw[if_neg q];exact z
theorem Inv.made(I:%[|4]):%[|16] (upd (upd H s.heap.objs.size (.own %[|41])) %[|41] (.ins C s.heap.objs.size []))
  {s with heap:=(s.heap.push PySem.W.emptyDict).push (PySem.W.instObj C s.heap.objs.size)}:=by
 have e1:(s.heap.push PySem.W.emptyDict).get? s.heap.objs.size=some PySem.W.emptyDict:=Heap.get?_push_size s.heap rfl
 have e2:((s.heap.push PySem.W.emptyDict).push (PySem.W.instObj C s.heap.objs.size)).get? %[|41]=some (PySem.W.instObj C s.heap.objs.size):=by
  have:=Heap.get?_push_size (s.heap.push PySem.W.emptyDict) (o:=PySem.W.instObj C s.heap.objs.size) rfl
  rwa [zAU]at this
 have e3:(s.heap.push PySem.W.emptyDict).Ns s.heap.objs.size (λ_=>none):=#[PySem.W.emptyDict,#v[],_,e1,rfl,(λe he=>absurd he %[|1]),λ_=>rfl];have I1:=I.laid (a:=s.heap.objs.size) (o:=.own %[|41]) (h':=s.heap.push PySem.W.emptyDict) (t':=s.toks) (λb u q=>Heap.get?_push_of_some _ q) (zAA _) #[_,e1];refine I1.laid (a:=s.heap.objs.size+1) (o:=.ins C s.heap.objs.size []) (t':=s.toks) (λb u q=>Heap.get?_push_of_some _ q) (Nat.le_of_eq (zAU _ _)) ?_;have ne:s.heap.objs.size≠s.heap.objs.size+1:=zAI (zB5 _);refine#[by rw[Af ne,A0A],zA5 _,ne,e2,λ_=>none,(Heap.Ns1.of_empty e3).at λo q=>Heap.get?_push_of_some _ q,λ_=>True.intro,λy hy=>absurd rfl hy]
theorem Vx(hb:attributeBase e f env (eval e env)=eval e env)(h:%[|31] (eval e env) (λo s₁=>%[|31] (getAttr o f true) Q E s₁) E s):%[|31] (eval (.Attribute e f pos) env) Q E s:=
 Attribute_any_ h (by rw[arm_eval_Attribute,hb])
end
inductive W8(K:PySem.W.Frag)(f:Str)(Q:VK)(a:Addr)(H1:Hp):Prop|mk{C dx fs v}(_:H1 a=some (.ins C dx fs))(_:Cls K C)(_:A0R K C f)(_:fs.lookup f=some v)(_:Q v H1)
def Z5(K:PySem.W.Frag)(f:Str)(Q:VK)(x:V)(H1:Hp):Prop:=vR (λa=>W8 K f Q a H1) x
def bW(K:PySem.W.Frag)(ta:TE)(f:Str):TE:=λσ H Q=>ta σ H (Z5 K f Q)
inductive Xs(K:PySem.W.Frag)(f:Str)(D:BJ)(σ:St)(y:V)(a:Addr)(H2:Hp):Prop|mk{C dx fs}(_:H2 a=some (.ins C dx fs))(_:Cls K C)(_:A0R K C f)(_:fs.length<1000)(_:D.nx σ (upd H2 a (.ins C dx (BY f y fs))))
def ZK(K:PySem.W.Frag)(f:Str)(D:BJ)(σ:St)(y:V)(x:V)(H2:Hp):Prop:=vR (λa=>Xs K f D σ y a H2) x
def bQ(K:PySem.W.Frag)(ta tv:TE)(f:Str):TS:=λD σ H=>tv σ H λy H1=>ta σ H1 (ZK K f D σ y)
section
variable {X:Cx}{o e value:Expr}{f:Str}{pos eF tpos:Pos}{ta tv:TE}
theorem AF(he:PE X e ta)(hb:attributeBase e f X.env (eval e X.env)=eval e X.env):PE X (.Attribute e f pos) (bW X.K ta f):=by
 exists 0;refine Vx hb (AU (he pins s σ H _ I h) λu s1 ⟨x,H1,I1,rx,h1⟩=>?_);obtain⟨a,rfl,@⟨C,dx,fs,v,ea,c,n,l,q⟩⟩:=C8 h1;obtain rfl:u=Value.ref a:=rx;exact Nk I1 ea c n l λu' s2 I2 ru=>#[v,H1,I2,ru,q]
theorem BD(ha:PE X o ta)(hv:PE X value tv)(hs:swapsWith value (some (.Attribute o f eF)) pos.line X.env=pure false):PS X (.Assign [.Attribute o f eF] value pos) (bQ X.K ta tv f):=by
 exists 7;refine plainObj_wpAny_Assign_Attribute (AU (hv pins s σ H _ I h) λu s1 ⟨y,H1,I1,ry,q⟩=>AU (ha pins s1 σ H1 _ I1 q) λov s2 ⟨x,H2,I2,rx,h2⟩=>?_) hs;obtain⟨a,rfl,@⟨C,dx,fs,ea,c,n,l,q2⟩⟩:=C8 h2;obtain rfl:ov=Value.ref a:=rx;exact NO I2 ea c n l ry λs3 I3=>#[σ,_,I3,q2]
end
section
variable {X:Cx}{pins:%[|19]}{σ:St}{H:Hp}{s:Shared}{A:Around}{E:Value->Shared->Prop}{Q:Value->Shared->Prop}{c:Value}{b:Bool}
inductive FZ(K:PySem.W.Frag)(H:Hp):V->Value->Prop where
 |non:FZ K H .non (.type "NoneType")
 |bl (x:Bool):FZ K H (.bl x) (.type "bool")
 |int (i:Int):FZ K H (.int i) (.type "int")
 |str (x:Str):FZ K H (.str x) (.type "str")
 |flt (x:UInt64):FZ K H (.flt x) (.type "float")
 |lst {a:Addr} {xs:List V} (e:H a=some %[|12]):FZ K H (.ref a) (.type "list")
 |frz {a:Addr} {o:Obj} {xs:List V} (e:H a=some (.frz o %[|12])):FZ K H (.ref a) (.type "list")
 |tup {a:Addr} {xs:List V} (e:H a=some (.tup xs)):FZ K H (.ref a) (.type "tuple")
 |dK {a:Addr} {kvs:List (DO×V)} (e:H a=some (.dK kvs)):FZ K H (.ref a) (.type "dict")
 |dT {a:Addr} {kvs:List (List DO×V)} (e:H a=some (.dT kvs)):FZ K H (.ref a) (.type "dict")
 | ins {a C dx:Addr} {fs:List (Str×V)} (e:H a=some (.ins C dx fs)) (cl:Cls K C) (ha:PySem.W.findIn K (.ref C) "__class__"=some (some %[|78]))
   (hn:PySem.W.specialIn K %[|78] "__get__"=some (some (.builtin "getset_descriptor.__get__"))) (htk:PySem.W.takesIn K %[|78]=some true)
   (hm:PySem.W.mroIn K C (.type "object")=some true):FZ K H (.ref a) (.ref C)
theorem Qz(I:%[|4])(rx:RelV x u)(ty:FZ X.K H x t)(e:PySem.W.kitOne X.K t c=some b)(h:∀tk,Q (.bool b) {s with toks:=tk}):
  wpAny %[|18] A (call (.builtin "isinstance") [u,c]) Q E s:=by
 cases ty with
 |non=>cases (show u=Value.none from rx);exact zBK PySem.W.kitx_none I.kIn True.intro e %[|59] h
 |bl y=>cases (show u=Value.bool y from rx);exact zBK PySem.W.kitx_bool I.kIn True.intro e %[|59] h
 |int i=>obtain⟨t,q⟩:=(show ∃t,u=Value.int i t from rx);cases q;exact zBK PySem.W.kitx_int I.kIn True.intro e %[|59] h
 |str y=>obtain⟨t,q⟩:=(show ∃t,u=Value.str y t from rx);cases q;exact zBK PySem.W.kitx_str I.kIn True.intro e %[|59] h
 |flt y=>obtain⟨t,q⟩:=(show ∃t,u=Value.float y t from rx);cases q;exact zBK PySem.W.kitx_float I.kIn True.intro e %[|59] h
 |@lst a xs ea=>
  cases (show u=Value.ref a from rx);obtain⟨_,_,n,_,h1⟩:=(show A0Q X.prog X.w H s.heap a %[|12] from I.hok a _ ea);exact zBK PySem.W.kitx_list I.kIn #[_,h1,rfl] e %[|59] h
 |@frz a ob xs ea=>
  cases (show u=Value.ref a from rx);obtain⟨_,_,_,n,_,h1⟩:=(show A0Q X.prog X.w H s.heap a (.frz ob %[|12]) from I.hok a _ ea);exact zBK PySem.W.kitx_list I.kIn #[_,h1,rfl] e %[|59] h
 |@tup a xs ea=>
  cases (show u=Value.ref a from rx);obtain⟨_,_,_,p⟩:=(show A0Q X.prog X.w H s.heap a (.tup xs) from I.hok a _ ea);obtain⟨o,h1,h2,_⟩:=p;exact zBK PySem.W.kitx_tuple I.kIn #[o,h1,h2] e %[|59] h
 |@dK a kvs ea=>
  cases (show u=Value.ref a from rx);obtain⟨_,_,vs,_,p⟩:=(show A0Q X.prog X.w H s.heap a (.dK kvs) from I.hok a _ ea);obtain⟨o,es,ep,h1,h2,_⟩:=p;exact zBK PySem.W.kitx_dict I.kIn #[o,h1,h2.1] e %[|59] h
 |@dT a kvs ea=>
  cases (show u=Value.ref a from rx);obtain⟨_,_,xs,_,o,es,ep,h1,h2,_⟩:=(show A0Q X.prog X.w H s.heap a (.dT kvs) from I.hok a _ ea);exact zBK PySem.W.kitx_dict I.kIn #[o,h1,h2.1] e %[|59] h
 |@ins a C dx fs ea cl ha hn htk hm=>
  cases (show u=Value.ref a from rx);obtain⟨mA,O,_⟩:=GN I.hok ea;obtain⟨od,J,_⟩:=O.look;exact zBK (PySem.W.kitx_own (cl.get _) cl.hd ha hn htk hm) I.kIn J e %[|59] h
end
structure A0M(k:Nat)(A:Around):Prop where
 hd:A.handled=none
 dp:A.depth+3*k+5<recursionLimit
 un:A.units+16*k+200<cLine
theorem A0M.mono(r:A0M k A)(h:j<=k):A0M j A:=#[r.hd,by have:=r.dp;omega,by have:=r.un;omega]
theorem A0M.deeper(r:A0M (k+1) A)(env:Env):A0M k (A.deeper env):=
 #[r.hd,by have:=r.dp;show A.depth+1+3*k+5<_;omega,by have:=r.un;show A.units+3+16*k+200<_;omega]
theorem MT{A:Around}{C:Addr}{us:%[|6]}{kw:List (Str×Value)}:(A.under (.builtin "type.__call__" #[.ref C::us,kw])).depth=A.depth+1:=by
 first|rfl|simp[Around.under,Code.weight,Code.isCreation,Code.isGuard,Code.isCaller,Code.frames,Code.isFrame,guardIds]
theorem M6{A:Around}{C:Addr}{us:%[|6]}{kw:List (Str×Value)}:(A.under (.builtin "type.__call__" #[.ref C::us,kw])).units=A.units+1:=by
 first|rfl|simp[Around.under,Code.cUnits,Code.frames,Code.isFrame]
theorem A0M.make(r:A0M (k+1) A)(C:Addr)(us:%[|6])(kw:List (Str×Value)):A0M k (A.under (.builtin "type.__call__" #[.ref C::us,kw])):=
 #[r.hd,by have:=r.dp;rw[MT];omega,by have:=r.un;rw[M6];omega]
theorem A0M.depth(r:A0M k A):A.depth<recursionLimit:=by have:=r.dp;omega
theorem A0M.units0(r:A0M k A):A.units<cLine:=by have:=r.un;omega
def Nr:TA:=λ_ H Q=>Q [] H
def MG(ta:TE)(tr:TA):TA:=λσ H Q=>ta σ H λx H1=>tr σ H1 λxs H2=>Q (x::xs) H2
section
variable {X:Cx}{e:Expr}{es:%[|22]}{te:TE}{t:TA}{pos:Pos}
theorem Bi:PA X [] Nr:=λ_ _ _ _ H Q I h=>Calls.spliced_nil #[[],H,I,.nil,h]
theorem Ag(ha:PE X e te)(hr:PA X es t)(hs:starEach (e::es) X.env=%[|52]::starEach es X.env:=by rfl):PA X (e::es) (MG te t):=by
 intro pos pins s σ H Q I h;rw[hs];show wpAny _ _ (spliced (%[|52]::backTo pos (starEach es X.env))) _ _ s;refine Calls.spliced_cons (AU %[|62] λu s1 ⟨x,H1,I1,r1,q1⟩=>?_);exact AU (hr pos pins s1 σ H1 _ I1 q1) λus s2 ⟨xs,H2,I2,r2,q2⟩=>#[x::xs,H2,I2,.cons r1 r2,q2]
def aZ(t:TA):TE:=λσ H Q=>t σ H λxs H1=>xs.length<=sizeLine/\∀p,H1 p=none->Q (.ref p) (upd H1 p (.tup xs))
def bS(t:TA):TE:=λσ H Q=>t σ H λxs H1=>xs.length<=sizeLine/\∀p,H1 p=none->Q (.ref p) (upd H1 p %[|12])
theorem Bj {x1} (h:PA X es t):PE X (.Tuple es x1 pos) (aZ t):=by
 intro pins s σ H Q I hq;refine wpAny_Tuple_spliced (AU (h pos pins s σ H _ I hq) λus s1 ⟨xs,H1,I1,r,z,q⟩=>#[by rw[<-r.length];exact z,?_]);have hf:H1 s1.heap.objs.size=none:=I1.hok.fresh (zAA _);refine#[.ref s1.heap.objs.size,upd H1 s1.heap.objs.size (.tup xs),I1.laid (t':=s1.toks) (λb u e=>Heap.get?_push_of_some _ e) (zAA _) ?_,rfl,q _ hf];exact#[z,us,r,#[_,Heap.get?_push_size _ rfl,rfl,_,rfl]]
theorem Av(h:PA X es t):PE X (.List es pos) (bS t):=by
 intro pins s σ H Q I hq;refine wpAny_List_spliced (AU (h pos pins s σ H _ I hq) λus s1 ⟨xs,H1,I1,r,z,q⟩=>#[by rw[<-r.length];exact z,?_]);have hf:H1 s1.heap.objs.size=none:=I1.hok.fresh (zAA _);refine#[.ref s1.heap.objs.size,upd H1 s1.heap.objs.size %[|12],I1.laid (t':=s1.toks) (λb u e=>Heap.get?_push_of_some _ e) (zAA _) ?_,rfl,q _ hf];exact#[z,us,0,r,Heap.get?_push_size _ rfl]
end
abbrev Sp:=List V->Hp->VK->XK->Prop
abbrev IK:=List Env->Hp->Shared->XK->Value->Shared->Prop
structure Env0(P:Program)(w:World)(K:PySem.W.Frag)(mg:Str->%[|14])(base:Heap)(A:Around)(outer:List Env)(s:Shared)(H:Hp):Prop where
 frames:A.frames=some outer
 mod:Mod K mg base
 bs:∀b o,base.get? b=some o->s.heap.get? b=some o/\H b=none
 bsz:base.objs.size<=s.heap.objs.size
 funs:s.heap.FunFrames base outer
 frf:∀b∈GU outer,H b=none
 hok:HOk P w H s.heap
 bare:AllBare s.gens
inductive CE(outer:List Env)(P:Program)(w:World)(H:Hp)(s:Shared)(Q:VK)(u:Value)(s':Shared):Prop where
 |mk (v H') (_:s'.os=s.os) (_:AllBare s'.gens) (_:Un (GU outer) [] H H' s.heap s'.heap) (_:HOk P w H' s'.heap) (_:RelV v u) (_:Q v H')
def CR(CX:IK)(outer:List Env)(P:Program)(w:World)(H:Hp)(s:Shared)(Q:VK)(E:XK)(r:Result)(s':Shared):Prop:=
 match r with
 |.ok (.ret u)=>CE outer P w H s Q u s'
 |.ok _=>False
 |.error e=>CX outer H s E e s'
structure EK(P:Program)(w:World)(K:PySem.W.Frag)(mg:Str->%[|14])(base:Heap)(CX:IK)(k:Nat)(f:Addr)(fd:FuncData)(ps:List Str)(sp:Sp):Prop where
 len:∀vs H Q E,sp vs H Q E->vs.length=ps.length
 run:∀(A:Around)(outer:List Env)(s:Shared)(H:Hp)(args:Args)(us:%[|6])(vs:List V)(Q:VK)(E:XK),A0M k A->Env0 P w K mg base A outer s H->BindsTo s fd args (ps.zip us)->Vals vs us->sp vs H Q E->
  codeAny (model P w) A (.call (.ref f) args) (CR CX outer P w H s Q E) s
theorem Env0.make{K:PySem.W.Frag}(e:Env0 P w K mg base A outer s H)(C:Addr)(us:%[|6])(kw:List (Str×Value)):
  Env0 P w K mg base (A.under (.builtin "type.__call__" #[.ref C::us,kw])) outer s H:=#[by first|exact e.frames|(simpa [Around.under,Code.envs,Code.isFrame,pushEnvs] using e.frames),e.mod,e.bs,e.bsz,e.funs,e.frf,e.hok,e.bare]
section
variable {X:Cx}{pins:%[|19]}{σ:St}{H:Hp}{s s':Shared}
theorem Inv.env0(I:%[|4]):Env0 X.prog X.w X.K X.mg X.base X.A X.stack s H:=
 #[I.ok.frames,I.ok.mod,I.bs,zAC I.ok.bsz I.sz,I.stack,I.stkFree,I.hok,I.bare]
theorem Inv.after(I:%[|4])(h:CE X.stack X.prog X.w H s Q u s'):EP X pins σ Q u s':=by
 obtain⟨v,H',os,bare,un,hok,r,q⟩:=h;obtain⟨hh,g,d,t,os'⟩:=s';obtain rfl:os'=s.os:=os;exact#[v,H',I.call (h':=hh) (g':=g) (d':=d) (t':=t) (ch:=[]) un hok bare (λb z=>absurd z %[|1]),r,q]
end
def Ph(sp:Sp)(eH:List V)(E:XK)(t:TA):TE:=λσ H Q=>t σ H λvs H1=>sp (vs++eH) H1 Q E
inductive Sw(C:Addr)(m:Str)(sp:Sp)(eH:List V)(E:XK)(t:TA)(σ:St)(Q:VK)(a:Addr)(H1:Hp):Prop|mk{dx fs}(_:H1 a=some (.ins C dx fs))(_:fs.lookup m=none)(_:t σ H1 λvs H2=>sp (.ref a::(vs++eH)) H2 Q E)
def Yz(C:Addr)(m:Str)(sp:Sp)(eH:List V)(E:XK)(t:TA)(σ:St)(Q:VK)(x:V)(H1:Hp):Prop:=vR (λa=>Sw C m sp eH E t σ Q a H1) x
def Pk(C:Addr)(m:Str)(sp:Sp)(eH:List V)(E:XK)(ta:TE)(t:TA):TE:=λσ H Q=>ta σ H (Yz C m sp eH E t σ Q)
def W9(C:Addr)(sp:Sp)(eH:List V)(E:XK)(t:TA):TE:=λσ H Q=>t σ H λvs H1=>∀x dx,H1 x=none->H1 dx=none->dx≠x->
 sp (.ref x::(vs++eH)) (upd (upd H1 dx (.own x)) x (.ins C dx [])) (λv H2=>v=.non/\Q (.ref x) H2) E
def Binds(K:PySem.W.Frag)(fd:FuncData)(ps:List Str)(ds:%[|6]):Prop:=
 ∀s us,K.In s.heap->(us++ds).length=ps.length->BindsTo s fd #[us,[]] (ps.zip (us++ds))
theorem Binds.all{K:PySem.W.Frag}(h:∀us:%[|6],us.length=ps.length->bindArgs fd #[us,[]]=pure (ps.zip us)):Binds K fd ps []:=λs us _ hl=>by
 rw[zA6]at hl ⊢;exact .of_eq (h us hl)
def Cy(CX:IK)(X:Cx)(E:XK):Prop:=∀pins(σ:St)H s e s',%[|4]->CX X.stack H s E e s'->X.xe e s'
section
variable {X:Cx}{CX:IK}{k:Nat}{f C:Addr}{fd:FuncData}{ps:List Str}{sp:Sp}{eH:List V}{ds:%[|6]}{E:XK}{x m:Str}{p pos dF:Pos}{e o:Expr}{es:%[|22]}{ta:TE}{t:TA}
theorem N3(F:%[|83])(hr:A0M k X.A)(hb:Binds X.K fd ps ds)(hd:Vals eH ds)(hx:Cy CX X E)(I:%[|4])(r:Vals vs us)(h:sp (vs++eH) H Q E):%[|20] (call (.ref f) us) %[|51] X.xe s:=by
 have r2:Vals (vs++eH) (us++ds):=r.append hd;have hl:(us++ds).length=ps.length:=by rw[<-r2.length];exact F.len _ _ _ _ h
 refine wpAny_call (codeAny_mono (F.run X.A X.stack s H #[us,[]] (us++ds) (vs++eH) Q E hr I.env0 (hb s us I.kIn hl) r2 h) λr s' hq=>?_)
 cases r with
 |error e=>exact hx pins σ H s e s' I hq
 |ok fl=>
  cases fl with
  |ret u=>exact I.after hq
  |next=>exact False.elim hq
  |brk=>exact False.elim hq
  |cont=>exact False.elim hq
theorem VM(F:%[|83])(hr:A0M k X.A)(hg:Gl X x)(hm:X.mg x=some (.ref f))(hk:PySem.W.keepIn X.K (.ref f)=true)(hb:Binds X.K fd ps ds)(hd:Vals eH ds)(hx:Cy CX X E)(ha:PA X (e::es) t)(fP:%[|48]=false:=by decide)(he:starEach (e::es) X.env=%[|52]::starEach es X.env:=by rfl)(dE:%[|71].any (·.1)=false:=by rfl):
  PE X %[|82] (Ph sp eH E t):=by
 exists 0;refine wpAny_Call_Name_kw (Ey I hg hm ?_ fP);refine zCI (h₀:=X.base) I.ok.mod.kin hk (AU (ha pos pins s σ H _ I h) λus s1 ⟨vs,H1,I1,r,q⟩=>#[I1.kIn,?_]) he dE;exact N3 F hr hb hd hx I1 r q
theorem V9(he:PE X o ta)(c:Cls X.K C)(hm:Uh X.K C m f)(F:%[|83])(hr:A0M k X.A)(hb:Binds X.K fd ps ds)(hd:Vals eH ds)(hx:Cy CX X E)(ha:PA X (e::es) t)(eG:starEach (e::es) X.env=%[|52]::starEach es X.env:=by rfl)(dE:%[|71].any (·.1)=false:=by rfl)(ht:eval (.Call (.Attribute o m dF) (e::es) [] pos) X.env=(do
   let ov <-eval o X.env
   standAt dF.atName
   let (f,first) <-holding [ov] (getMethod ov m pl)
   callWith pos f first (backTo pos (starEach (e::es) X.env)) (backToKw pos (keywordEach [] X.env))):=by rfl):
  PE X (.Call (.Attribute o m dF) (e::es) [] pos) (Pk C m sp eH E ta t):=by
 exists 0;refine PySem.W.methodCall_KW (pl:=pl) (AU (he pins s σ H _ I h) λu s1 ⟨x,H1,I1,rx,h1⟩=>?_) ht;obtain⟨a,rfl,@⟨dx,fs,ea,l,q⟩⟩:=C8 h1;obtain rfl:u=Value.ref a:=rx;refine GZ I1 ea c hm l ?_;refine zCI (first:=[.ref a]) (h₀:=X.base) I.ok.mod.kin hm.kp (AU (ha pos pins s1 σ H1 _ I1 q) λus s2 ⟨vs,H2,I2,r,q2⟩=>#[I2.kIn,?_]) eG dE;exact N3 (us:=.ref a::us) (vs:=.ref a::vs) F hr hb hd hx I2 (.cons rfl r) q2
theorem RP(he:PE X o ta)(c:Cls X.K C)(hm:Uh X.K C m f)(F:%[|83])(hr:A0M k X.A)(hb:Binds X.K fd ps ds)(hd:Vals eH ds)(hx:Cy CX X E)(ht:eval (.Call (.Attribute o m dF) [] [] pos) X.env=(do
   let ov <-eval o X.env
   standAt dF.atName
   let (f,first) <-holding [ov] (getMethod ov m pl)
   callWith pos f first (backTo pos (starEach [] X.env)) (backToKw pos (keywordEach [] X.env))):=by rfl):
  PE X (.Call (.Attribute o m dF) [] [] pos) (Pk C m sp eH E ta Nr):=by
 exists 0;refine PySem.W.methodCall_KW (pl:=pl) (AU (he pins s σ H _ I h) λu s1 ⟨x,H1,I1,rx,h1⟩=>?_) ht;obtain⟨a,rfl,@⟨dx,fs,ea,l,q⟩⟩:=C8 h1;obtain rfl:u=Value.ref a:=rx;refine GZ I1 ea c hm l ?_;exact PySem.W.callWith_K0 (first:=[.ref a]) I1.kIn hm.kp (N3 (us:=[.ref a]) (vs:=[.ref a]) F hr hb hd hx I1 (.cons rfl .nil) q)
structure Mk(K:PySem.W.Frag)(C f:Addr):Prop where
 makes:PySem.W.makesIn K C=true
 init:PySem.W.findIn K (.ref C) "__init__"=some (some (.ref f))
 fn:PySem.W.isFn K (.ref f)=true
 kp:PySem.W.keepIn K (.ref C)=true
theorem UK(M:Mk X.K C f)(F:%[|83])(hr:A0M (k+1) X.A)(hb:Binds X.K fd ps ds)(hd:Vals eH ds)(hx:Cy CX X E)(I:%[|4])(r:Vals vs us)(h:∀x dx,H x=none->H dx=none->dx≠x->sp (.ref x::(vs++eH)) (upd (upd H dx (.own x)) x (.ins C dx [])) (λv H2=>v=.non/\Q (.ref x) H2) E):
  wpAny %[|18] X.A (call (.ref C) us) %[|51] X.xe s:=by
 have hq:=h %[|41] s.heap.objs.size (I.hok.fresh (zBA _)) (I.hok.fresh (zAA _)) (zAI (zB5 _));have I2:=Inv.made (C:=C) I;have r2:Vals (V.ref %[|41]::(vs++eH)) (Value.ref %[|41]::(us++ds)):=.cons rfl (r.append hd)
 have hl:(Value.ref %[|41]::us++ds).length=ps.length:=by
  have e:=r2.length;rw[F.len _ _ _ _ hq]at e;exact e.symm
 refine wpAny_call (Sm (f:=f) I.kIn M.makes M.init (beq_iff_eq.mp M.fn) (codeAny_mono (F.run _ X.stack _ _ #[Value.ref %[|41]::us,[]] (Value.ref %[|41]::(us++ds)) _ _ E (hr.make C us [])
  (I2.env0.make C us []) (hb _ (Value.ref %[|41]::us) I2.kIn hl) r2 hq) λr s' hq'=>?_))
 cases r with
 |error e=>exact hx pins σ _ _ e s' I2 hq'
 |ok fl=>
  cases fl with
  |ret u=>
   obtain⟨v,H',I3,rv,ev,q3⟩:=I2.after hq';subst ev;exact#[rv,#[V.ref %[|41],H',I3,rfl,q3]]
  |next=>exact False.elim hq'
  |brk=>exact False.elim hq'
  |cont=>exact False.elim hq'
theorem WD(M:Mk X.K C f)(F:%[|83])(hr:A0M (k+1) X.A)(hg:Gl X x)(hm:X.mg x=some (.ref C))(hb:Binds X.K fd ps ds)(hd:Vals eH ds)(hx:Cy CX X E)(ha:PA X (e::es) t)(fP:%[|48]=false:=by decide)(he:starEach (e::es) X.env=%[|52]::starEach es X.env:=by rfl)(dE:%[|71].any (·.1)=false:=by rfl):
  PE X %[|82] (W9 C sp eH E t):=by
 exists 0;refine wpAny_Call_Name_kw (Ey I hg hm ?_ fP);refine zCI (h₀:=X.base) I.ok.mod.kin M.kp (AU (ha pos pins s σ H _ I h) λus s1 ⟨vs,H1,I1,r,q⟩=>#[I1.kIn,?_]) he dE;exact UK M F hr hb hd hx I1 r q
end
section
variable {X:Cx}{CX:IK}{k:Nat}{f C:Addr}{fd:FuncData}{ps ks:List Str}{sp:Sp}{E:XK}{x m:Str}{p pos dF kpos:Pos}{e o:Expr}{es:%[|22]}{kws:List Keyword}{te ta:TE}{t tk:TA}{nm:Option Str}
variable {g:%[|6]->%[|6]->%[|6]}{gV:List V->List V->List V}
end
structure Et(N P:List Str)(sc:Scope):Prop where
 kind:sc.kind=.function
 co:sc.isCoroutine=false
 gen:sc.isGenerator=false
 nd:N.Nodup
 pre:N.take P.length=P
 par:∀x∈P,sc.names.lookup x=some .local\/sc.names.lookup x=some .cell
 nofree:∀y∈sc.names,y.2≠.free
theorem Jx{kindOf:Str->Option NameKind}{x:Str}:∀{binds:List (Str×Value)}{m:Str->%[|14]},(∀v,(x,v)∉binds)->bindL kindOf binds m x=m x
 |[],_,_=>rfl
 |(n,v)::r,m,h=>by
  unfold bindL;rw[Jx λw hw=>h w %[hw|116]];split
  ·have:x≠n:=by rintro rfl;exact h v List.mem_cons_self
   simp[this]
  ·rfl
theorem JB{kindOf:Str->Option NameKind}{x:Str}:∀{binds:List (Str×Value)}{m:Str->%[|14]},(∀v,(x,v)∉binds)->bindC kindOf binds m x=m x
 |[],_,_=>rfl
 |(n,v)::r,m,h=>by
  unfold bindC;rw[JB λw hw=>h w %[hw|116]];split
  ·rfl
  ·have:x≠n:=by rintro rfl;exact h v List.mem_cons_self
   simp[this]
theorem Jq{kindOf:Str->Option NameKind}{x:Str}{v:Value}:∀{P:List Str}{vs:%[|6]}{i:Nat}{m:Str->%[|14]},P.Nodup->P[i]? = some x->vs[i]? = some v->kindOf x=some .local->
  bindL kindOf (P.zip vs) m x=some v
 |[],_,_,_,_,h,_,_=>by simp at h
 |_::_,[],_,_,_,_,h,_=>by simp at h
 |p::P,w::vs,0,m,nd,h1,h2,hk=>by
  simp at h1 h2;subst h1;subst h2;show bindL kindOf ((p,w)::P.zip vs) m p=_;unfold bindL;rw[Jx λv hv=>(List.nodup_cons.mp nd).1 (List.of_mem_zip hv).1,if_pos hk];simp
 |p::P,w::vs,i+1,m,nd,h1,h2,hk=>by
  show bindL kindOf ((p,w)::P.zip vs) m x=_;unfold bindL;exact Jq (i:=i) (List.nodup_cons.mp nd).2 (by simpa using h1) (by simpa using h2) hk
theorem IG{kindOf:Str->Option NameKind}{x:Str}{v:Value}:∀{P:List Str}{vs:%[|6]}{i:Nat}{m:Str->%[|14]},P.Nodup->P[i]? = some x->vs[i]? = some v->kindOf x≠some .local->
  bindC kindOf (P.zip vs) m x=some v
 |[],_,_,_,_,h,_,_=>by simp at h
 |_::_,[],_,_,_,_,h,_=>by simp at h
 |p::P,w::vs,0,m,nd,h1,h2,hk=>by
  simp at h1 h2;subst h1;subst h2;show bindC kindOf ((p,w)::P.zip vs) m p=_;unfold bindC;rw[JB λv hv=>(List.nodup_cons.mp nd).1 (List.of_mem_zip hv).1,if_neg hk];simp
 |p::P,w::vs,i+1,m,nd,h1,h2,hk=>by
  show bindC kindOf ((p,w)::P.zip vs) m x=_;unfold bindC;exact IG (i:=i) (List.nodup_cons.mp nd).2 (by simpa using h1) (by simpa using h2) hk
def EQ(N:List Str)(vs:List V):St:=vs.map some++List.replicate (N.length-vs.length) none
def Io(CX:IK)(P:Program)(w:World)(K:PySem.W.Frag)(mg:Str->%[|14])(base:Heap)(N:List Str)(dz:Str)(scope:Scope)(f:Addr)(cd:Value)(A:Around)(outer:List Env)(s:Shared)(H:Hp)(E:XK):Cx where
 prog:=P
 w:=w
 K:=K
 mg:=mg
 base:=base
 A:=A.deeper (envOfC dz scope s.heap.objs.size f cd)
 N:=N
 s₀:=s
 H₀:=H
 env:=envOfC dz scope s.heap.objs.size f cd
 outer:=outer
 stack:=envOfC dz scope s.heap.objs.size f cd::outer
 ex:=[]
 calm:=true
 fn:=λ_=>true
 pn:=[]
 xe:=λe s'=>wpAny (model P w) (A.deeper (envOfC dz scope s.heap.objs.size f cd)) (leaving (envOfC dz scope s.heap.objs.size f cd) e) (λ_ s''=>CX outer H s E e s'') (λe' s''=>CX outer H s E e' s'') s'
theorem Ma{sc:Scope}{n:Nat}{x:Str}(h:sc.names.lookup x=some .cell):∃c,(cellsFrom n sc.names []).lookup x=some c:=by
 have q:=PySem.W.cellsFrom_some sc.names n [] (.inl h);exact Option.isSome_iff_exists.mp q
theorem QN{K:PySem.W.Frag}(S:Et N ps scope)(hd:A.handled=none)(e0:Env0 P w K mg base A outer s H)(hl:vs.length=ps.length)(r:Vals vs us)(x:InCallC s s.heap.objs.size (bindL (envOfC dz scope s.heap.objs.size f cd).kindOf (ps.zip us) λ_=>none) (cellsFrom %[|41] scope.names []) (bindC (envOfC dz scope s.heap.objs.size f cd).kindOf (ps.zip us) λ_=>none) s1):
  Inv (%[|100] cd A outer s H E) [] (EQ N vs) H s1:=by
 have dE:ps.length<=N.length:=by have:=congrArg List.length S.pre;rw[zAW]at this;omega
 obtain⟨h1,tk,rfl,hk⟩:=x.done;have noA:∀b:Addr,b∉(%[|100] cd A outer s H E).ex:=λb z=>absurd (show b∈([]:%[|3]) from z) %[|1]
 refine#[#[e0.mod,S.kind,rfl,rfl,zAA _,λy z c h1 h2=>?_,λy hy=>?_,λy c _ h=>?_,λ_=>hd,Around.frames_deeper e0.frames,.inr #[rfl,rfl],λb z=>absurd z (noA b),e0.bs,e0.bsz,λb _ _=>noA b,λb z=>absurd z (noA b),e0.funs,e0.frf],
  rfl,e0.bare,Un.kept hk,#[_,x.toInCall.ns,λi y v h1 h2 h3=>?_],λy c h=>#[_,x.cell y c h],e0.hok.fresh (zAA _),λy c h=>?_,λp hp=>absurd (show p∈([]:%[|19]) from hp) %[|1],e0.hok.kept hk,?_]
 ·exact name_of_addr x.apart (zAZ h1) (zAZ h2)
 ·have hy:scope.names.lookup y=some .cell\/scope.names.lookup y=some .free:=hy;rcases hy with hy|hy
  ·exact Ma hy
  ·exact absurd rfl (S.nofree _ (zAZ hy))
 ·exact zA7 (x.above y c (zAZ h))
 ·have hi:i<vs.length:=by
   unfold EQ at h2;by_cases hi:i<vs.length
   ·exact hi
   ·rw[List.getElem?_append_right (by simpa using hi)]at h2;rw[List.getElem?_replicate]at h2;split at h2<;>cases h2
  have ha:vs[i]? = some v:=by
   unfold EQ at h2;rw[List.getElem?_append_left (by simpa using hi),List.getElem?_map]at h2
   cases e:vs[i]? with
   |none=>rw[e]at h2;cases h2
   |some a=>rw[e]at h2;cases h2;rfl
  obtain⟨u,hu,rv⟩:=r.get ha
  have hp:ps[i]? = some y:=by
   rw[<-S.pre,List.getElem?_take_of_lt %[|0]];exact h1
  have ndP:ps.Nodup:=by rw[<-S.pre];exact S.nd.sublist (List.take_sublist _ _)
  refine#[u,rv,?_];rcases S.par y (zAJ hp)with k|k
  ·exact .inl #[k,Jq ndP hp hu k]
  ·obtain⟨c,e⟩:=Ma (n:=s.heap.objs.size+1) k;refine .inr #[.inl k,c,e,?_];have q:=x.cell y c e;rw[IG ndP hp hu (by show scope.names.lookup y≠_;rw[k];decide)]at q;exact q
 ·exact e0.hok.fresh (zA7 (x.above y c (zAZ h)))
 ·unfold EQ;show _=N.length;rw[zA,List.length_map,zD];omega
theorem XQ{K:PySem.W.Frag}{dV kV fA pm dm ct oc:Value}(lk:K.lookup f=some #[oc,od,.func (PySem.W.fnOf name dz params body scope dV kV fA pm an dm ct),jA])(gq:PySem.W.codeIn K dm dz=true)(S:Et N ps scope)(len:∀vs H Q E,sp vs H Q E->vs.length=ps.length)(gr:∀(A:Around) (outer:List Env) (s:Shared) (H:Hp) (vs:List V) (Q:VK) (E:XK),A0M k (A.deeper (envOfC dz scope s.heap.objs.size f dm))->sp vs H Q E->
   ∃t,PSs (%[|100] dm A outer s H E) body t/\t {nx:=λ_ H'=>Q .non H',rt:=Q} (EQ N vs) H):
  EK P w K mg base CX (k+1) f (PySem.W.fnOf name dz params body scope dV kV fA pm an dm ct) ps sp:=by
 refine#[len,λA outer s H args us vs Q E hr e0 hb r fB=>?_];have hl:=len _ _ _ _ fB;have KX:K.In s.heap:=e0.mod.kin.keeps λb o e=>(e0.bs b o e).1
 have lim:s.heap.NoLimit:=e0.mod.nolimit.keeps λb o e=>(e0.bs b o e).1
 have hkind:∀y∈ps.zip us,scope.names.lookup y.1=some .local\/(scope.names.lookup y.1=some .cell/\((cellsFrom %[|41] scope.names []).lookup y.1).isSome=true):=λ⟨n,v⟩ hy=>by
  rcases S.par n (List.of_mem_zip hy).1 with q|q
  ·exact .inl q
  ·exact .inr #[q,PySem.W.cellsFrom_some _ _ _ (.inl q)]
 refine codeAny_call_function hr.depth (KX _ _ lk) rfl S.co S.gen rfl (PySem.W.codeRec_of KX gq) (hb _ _ _ _ ?_);refine wpAny_newFunctionEnv_cells S.kind hkind λenv he s1 x=>?_
 subst he;refine#[lim.keeps x.toInCall.keep,codeAny_func ?_];obtain⟨t,ht,hq⟩:=gr A outer s H vs Q E (hr.deeper _) fB;have I:Inv (%[|100] dm A outer s H E) [] (EQ N vs) H s1:=QN S hr.hd e0 hl r x;refine wpAny_mono (ht [] s1 (EQ N vs) H _ I hq) (λfl s' hs=>?_) λe s' hs=>hs
 have dI:∀{σ':St}{H':Hp}{v:V}{u:Value},Inv (%[|100] dm A outer s H E) [] σ' H' s'->RelV v u->Q v H'->CE outer P w H s Q u s':=
  λ{σ' H' v u} J rv q=>#[v,H',J.os,J.bare,J.base,J.hok,rv,q]
 cases fl with
 |ret u=>
  obtain⟨v,σ',H',J,rv,q⟩:=hs;exact dI J rv q
 |next=>
  obtain⟨σ',H',J,q⟩:=hs;exact dI (v:=V.non) (u:=Value.none) J rfl q
 |brk=>
  obtain⟨_,_,_,q⟩:=hs;exact False.elim q
 |cont=>
  obtain⟨_,_,_,q⟩:=hs;exact False.elim q
section
variable {X:Cx}{x:Str}{p pos:Pos}{e:Expr}{es:%[|22]}{t:TA}{id T:String}{r:List V->Hp->VK->Prop}
def bx(r:List V->Hp->VK->Prop)(t:TA):TE:=λσ H Q=>t σ H λvs H1=>r vs H1 Q
theorem AQ(hc:Cf X (.builtin id) r)(hg:Gl X x)(hm:X.mg x=none)(hv:bootBuiltins x=some (.builtin id))(ha:PA X (e::es) t)(hn:x≠"__name__":=by decide)(fP:%[|48]=false:=by decide)(he:starEach (e::es) X.env=%[|52]::starEach es X.env:=by rfl)(dE:%[|71].any (·.1)=false:=by rfl):PE X %[|82] (bx r t):=by
 exists 0;refine wpAny_Call_Name_kw (EU I hg hm hv ?_ hn fP);exact PyProof.Rows.callWith_builtin1 (AU (ha pos pins s σ H _ I h) λus s1 ⟨vs,H1,I1,r1,q1⟩=>hc pins s1 σ H1 vs us Q I1 r1 q1) he dE
theorem AJ(hc:Cf X (.type T) r)(hg:Gl X x)(hm:X.mg x=none)(hv:bootBuiltins x=some (.type T))(ha:PA X (e::es) t)(hn:x≠"__name__":=by decide)(fP:%[|48]=false:=by decide)(he:starEach (e::es) X.env=%[|52]::starEach es X.env:=by rfl)(dE:%[|71].any (·.1)=false:=by rfl):PE X %[|82] (bx r t):=by
 exists 0;refine wpAny_Call_Name_kw (EU I hg hm hv ?_ hn fP);exact zB7 (AU (ha pos pins s σ H _ I h) λus s1 ⟨vs,H1,I1,r1,q1⟩=>hc pins s1 σ H1 vs us Q I1 r1 q1) he dE
theorem Nt(hc:Cf X (.type T) r)(hg:Gl X x)(hm:X.mg x=none)(hv:bootBuiltins x=some (.type T))(hn:x≠"__name__":=by decide)(fP:%[|48]=false:=by decide):
  PE X (.Call (.Name x p) [] [] pos) (bx r Nr):=by
 exists 0;refine wpAny_Call_Name_kw (EU I hg hm hv ?_ hn fP);exact PyProof.Rows.callWith_type0 (hc pins s σ H [] [] Q I .nil h)
end
end L2
namespace HT
open PySem PyProof.Rows
section
open PySem.SeqAt
open PySem.AutoSeq1 (wpAny_loadPart')
open PySem.MeetsSeq PySem.MeetsSeq2 PySem.MeetsSeq3
end
section
variable {prog:Program}{w:World}{A:Around}{E:Value->Shared->Prop}{s:Shared}
def sIx(n d:Nat):Option Int->Nat
 |none=>d
 |some v=>if v<0 then (v+(n:Int)).toNat else min v.toNat n
theorem sIx_none(n d:Nat):sIx n d none=d:=rfl
theorem sIx_nat(n d k:Nat):sIx n d (some (k:Int))=min k n:=by
 show (if (k:Int)<0 then ((k:Int)+(n:Int)).toNat else min (k:Int).toNat n)=min k n;rw[if_neg %[|0],zBG]
theorem Yu(n d:Nat)(hd:d<=n)(o:Option Int):sIx n d o<=n:=by
 cases o with
 |none=>exact hd
 |some v=>
  show (if v<0 then (v+(n:Int)).toNat else min v.toNat n)<=n;by_cases hv:v<0
  ·rw[if_pos hv];omega
  ·rw[if_neg hv];exact Nat.min_le_right _ _
theorem Py(v:Int)(n d:Nat):(if v<0 then max (v+(n:Int)) 0 else min v (n:Int))=((sIx n d (some v):Nat):Int):=by
 show (if v<0 then max (v+(n:Int)) 0 else min v (n:Int))=(((if v<0 then (v+(n:Int)).toNat else min v.toNat n):Nat):Int);by_cases hv:v<0
 ·simp only[if_pos hv];omega
 ·simp only[if_neg hv];omega
theorem No(lo hi:Option Int)(n:Nat):Builtin.Slice.sliceAdjust lo hi 1 (n:Int)=(((sIx n 0 lo:Nat):Int),((sIx n n hi:Nat):Int)):=by
 have h1:¬((1:Int)<0):=by omega
 unfold Builtin.Slice.sliceAdjust;simp only[h1,if_false];refine Prod.ext ?_ ?_
 ·cases lo with
  |none=>rfl
  |some v=>exact Py v n 0
 ·cases hi with
  |none=>rfl
  |some v=>exact Py v n n
theorem Nx(i j:Nat):Builtin.Slice.slicePlaces (i:Int) (j:Int) 1=j-i:=by
 unfold Builtin.Slice.slicePlaces;have h1:(1:Int)>0:=by omega
 simp only[h1,if_true,Int.ediv_one];split<;>omega
theorem HR(p:IsPart v o)(h:Q o s):%[|31] (Builtin.Slice.slicePartIndex v) Q E s:=by
 cases p with
 |none=>exact slicePart_none h
 |int i t=>exact slicePart_int h
theorem FN{lo hi:Option Int}{n:Nat}{Q:Int×Int×Nat->Shared->Prop}(hs:s.heap.IsSliceOf sl vl vu .none)(pl:IsPart vl lo)(pu:IsPart vu hi)(h:Q (((sIx n 0 lo:Nat):Int),1,sIx n n hi-sIx n 0 lo) s):%[|31] (Builtin.Slice.sliceApplied (.ref sl) (pure (n:Int))) Q E s:=by
 obtain⟨os,hos,hcs,hds⟩:=id hs;unfold Builtin.Slice.sliceApplied Builtin.Slice.sliceFields;refine wpAny_bind (wpAny_bind (wpAny_field hos hds (x:=vl) rfl (wpAny_bind (wpAny_field hos hds (x:=vu) rfl (wpAny_bind (wpAny_field hos hds (x:=.none) rfl %[|38]))))));refine wpAny_bind (slicePart_none ?_);show wpAny _ _ (if ((1:Int) == 0)=true then _ else _) _ _ s;rw[if_neg %[|2]];refine wpAny_bind (HR pl (wpAny_bind (HR pu (wpAny_bind %[|38]))));show wpAny _ _ (match Builtin.Slice.sliceAdjust lo hi 1 (n:Int)with|(lo,hi)=>pure (lo,(1:Int),Builtin.Slice.slicePlaces lo hi 1)) _ _ s;rw[No lo hi n];show wpAny _ _ (pure (((sIx n 0 lo:Nat):Int),(1:Int),Builtin.Slice.slicePlaces ((sIx n 0 lo:Nat):Int) ((sIx n n hi:Nat):Int) 1)) _ _ s;rw[Nx];exact wpAny_pure h
theorem SQ(xs:Array Value)(i k:Nat):((List.range k).filterMap λ(m:Nat)=>xs[((i:Int)+(m:Int)*1).toNat]?).toArray=((xs.toList.drop i).take k).toArray:=by
 have e:(λ(m:Nat)=>xs[((i:Int)+(m:Int)*1).toNat]?)=λm=>xs[i+m]? :=by
  funext m
  have:((i:Int)+(m:Int)*1).toNat=i+m:=by omega
  rw[this]
 rw[e];have:=pick_run xs i k;rw[List.filterMap_map]at this;have e2:((λx=>xs[x]?) ∘ λx=>i+x)=λm=>xs[i+m]? :=rfl
 rw[e2]at this;rw[this]
theorem getItem_tuple_cut{lo hi:Option Int}(ht:IsTup s.heap t dh)(hs:s.heap.IsSliceOf sl vl vu .none)(pl:IsPart vl lo)(pu:IsPart vu hi)(hw:¬(sIx dh.size 0 lo=0/\sIx dh.size dh.size hi=dh.size))(h:Q %[|46] {s with heap:=s.heap.push {cls:=.type "tuple",data:=.seq %[|108].toArray}})(hsz:dh.size<=sizeLine):%[|31] (getItem (.ref t) (.ref sl)) Q E s:=by
 have ii:sizeOk (.seq %[|108].toArray):=by
  show %[|108].toArray.size<=sizeLine;rw[zAK,zAW,List.length_drop,zAL];omega
 have hj:sIx dh.size dh.size hi<=dh.size:=Yu _ _ (zAA _) hi;obtain⟨os,hos,hcs,hds⟩:=id hs;have hTs:s.TypeIs (.ref sl) "slice":=#[os,hos,hcs];unfold getItem
 try with_reducible refine wpAny_holding ?_
 first|refine wpAny_bind %[|38]|skip
 refine wpAny_bind (wpAny_sequenceKey ht.typeIs %[|2] ?_)
 refine wpAny_bind (wpAny_callSpecial?_slot (name:=Str.ofString "__getitem__") ht.typeIs PyProof.Rows.slot_tuple_getitem
  (wpAny_call_entry PyProof.Rows.slot_tuple_getitem ht.typeIs entry_tuple_getitem ?_ (args_tuple_getitem _ _)))
 show wpAny _ _ (Builtin.Tuple.tupleItemsOf (.ref t) >>= _) _ _ s;refine wpAny_bind (tupleItemsOf_ ht ?_);refine wpAny_bind (wpAny_typeOf hTs ?_);rw[if_pos %[|2]];refine wpAny_bind (FN hs pl pu ?_)
 have kh:¬((((sIx dh.size 0 lo:Nat):Int) == 0 && (1:Int) == 1 && (sIx dh.size dh.size hi-sIx dh.size 0 lo) == dh.size)=true):=by
  intro q;rw[zAX,zAX]at q;have q1:((sIx dh.size 0 lo:Nat):Int)=0:=eq_of_beq q.1.1;have q2:sIx dh.size dh.size hi-sIx dh.size 0 lo=dh.size:=eq_of_beq q.2;exact hw #[by omega,by omega]
 show wpAny _ _ (if (((sIx dh.size 0 lo:Nat):Int) == 0 && (1:Int) == 1 && (sIx dh.size dh.size hi-sIx dh.size 0 lo) == dh.size)=true then _ else _) _ _ s;rw[if_neg kh,SQ]
 first
  |exact wpAny_bind (m:=Builtin.Tuple.tupleExact _) (wpAny_newObj_type (wpAny_pure #[_,rfl,wpAny_pure h]) ii)
  |exact wpAny_bind (m:=Builtin.Tuple.tupleExact _) (wpAny_newObj_type (wpAny_bind (wpAny_pure (wpAny_pure #[_,rfl,wpAny_pure h]))) ii)
  |exact wpAny_bind (wpAny_bind (m:=Builtin.Tuple.tupleExact _) (wpAny_newObj_type (wpAny_pure (wpAny_pure #[_,rfl,wpAny_pure h])) ii))
  |exact wpAny_bind (wpAny_bind (m:=Builtin.Tuple.tupleExact _) (wpAny_newObj_type (wpAny_pure #[_,rfl,wpAny_pure h]) ii))
end
end HT
namespace L2
open PySem PySem.Spec PyProof.Rows
abbrev TO:=St->Hp->(Option Int->Hp->Prop)->Prop
def PO(X:Cx)(e:Option Expr)(t:TO):Prop:=
 ∀pins s(σ:St)H(Q:Option Int->Hp->Prop),%[|4]->t σ H Q->
  wpAny %[|18] X.A (evalPart e X.env) (λu s'=>Cd λo H'=>BV (%[|16] H' s') (IsPart u o) (Q o H')) X.xe s
def WY:TO:=λ_ H Q=>Q none H
inductive SO(Q:Option Int->Hp->Prop)(x:V)(H1:Hp):Prop|mk(i)(_:x=.int i)(_:Q (some i) H1)
def ZX(t:TE):TO:=λσ H Q=>t σ H (SO Q)
section
variable {X:Cx}{e:Expr}{te:TE}{lo hi:Option Expr}{tl th:TO}{pos p2:Pos}
theorem JO:PO X none WY:=by
 exists 0;rw[evalPart_none];exact wpAny_pure #[none,H,I,.none,h]
theorem JI(h:PE X e te):PO X (some e) (ZX te):=by
 intro pins s σ H Q I hw;rw[evalPart_some];refine AU (h pins s σ H _ I hw) λu s1 ⟨x,H1,I1,r1,q1⟩=>?_
 obtain⟨i,rfl,q⟩:=q1;obtain⟨t,rfl⟩:=r1;exact#[some i,H1,I1,.int i t,q]
def bH(X:Cx)(r:V->Option Int->Option Int->Hp->VK->Prop):Prop:=
 ∀pins s(σ:St)H x v vl vu(lo hi:Option Int)sl Q,%[|4]->RelV x v->s.heap.IsSliceOf sl vl vu .none->IsPart vl lo->IsPart vu hi->r x lo hi H Q->
  Cd λT id=>BV (typeLookup (.type T) "__getitem__"=pure (some (.builtin id))) (s.TypeIs v T) (%[|20] (getItem v (.ref sl)) %[|51] X.xe s)
def cC(r:V->Option Int->Option Int->Hp->VK->Prop)(te:TE)(tl th:TO):TE:=λσ H Q=>te σ H λx H1=>tl σ H1 λl H2=>th σ H2 λu H3=>r x l u H3 Q
theorem Ht(hr:bH X r)(he:PE X e te)(hl:PO X lo tl)(hu:PO X hi th):PE X (.Subscript e (.Slice lo hi none p2) pos) (cC r te tl th):=by
 exists 0;refine Subscript_ (AU (he pins s σ H _ I h) λv s1 ⟨x,H1,I1,r1,q1⟩=>?_);refine wpAny_Slice (AU (hl pins s1 σ H1 _ I1 q1) λvl s2 ⟨l,H2,I2,pl,q2⟩=>AU (hu pins s2 σ H2 _ I2 q2) λvu s3 ⟨u,H3,I3,pu,q3⟩=>?_);rw[evalPart_none];exists 5;have I4:%[|16] H3 {s3 with heap:=s3.heap.push {cls:=.type "slice",data:=.fields #v[vl,vu,.none]}}:=I3.kept (t':=s3.toks) λb ob q=>Heap.get?_push_of_some _ q
 obtain⟨T,id,hT,ht,hg⟩:=hr pins {s3 with heap:=s3.heap.push {cls:=.type "slice",data:=.fields #v[vl,vu,.none]}} σ H3 x v vl vu l u s3.heap.objs.size Q I4 r1 (Heap.IsSliceOf.new ..) pl pu q3;show wpAny %[|18] X.A (subscriptTail e (.Slice lo hi none p2) v (.ref s3.heap.objs.size)) %[|51] X.xe {s3 with heap:=s3.heap.push {cls:=.type "slice",data:=.fields #v[vl,vu,.none]}};exact tail_any (ops:=[.ref s3.heap.objs.size,v]) ht hT hg %[|32]
def GG(xs:List V)(lo hi:Option Int):List V:=(xs.drop (HT.sIx xs.length 0 lo)).take (HT.sIx xs.length xs.length hi-HT.sIx xs.length 0 lo)
theorem Gp(xs:List V)(lo hi:Option Int):(GG xs lo hi).length<=xs.length:=by
 unfold GG;rw[zAW,List.length_drop];omega
inductive aA(K:PySem.W.Frag)(x:V)(lo:Option Int)(hi:Option Int)(H:Hp)(Q:VK):Prop|mk(a xs)(_:x=.ref a)(_:SqT K H a xs)(_:¬(HT.sIx xs.length 0 lo=0/\HT.sIx xs.length xs.length hi=xs.length))(_:∀p,H p=none->Q (.ref p) (upd H p (.tup (GG xs lo hi))))
theorem YW:bH X (aA X.K):=by
 intro pins s σ H x v vl vu lo hi sl Q I rx hs pl pu h;obtain⟨a,xs,rfl,hx,hw,q⟩:=h;cases rx;obtain⟨its,r,ht,hz⟩:=I.tuple hx;have dj:its.toArray.size=xs.length:=by rw[zAK];exact r.length.symm
 refine#["tuple",_,PyProof.Rows.slot_tuple_getitem.lookup,ht.typeIs,?_];refine HT.getItem_tuple_cut ht hs pl pu (by rw[dj];exact hw) ?_ (by rw[dj];exact hz);rw[dj];refine#[.ref s.heap.objs.size,_,I.laid (t':=s.toks) (o:=.tup (GG xs lo hi)) (λb ob q=>Heap.get?_push_of_some _ q) (zAA _) ?_,rfl,q _ (I.hok.fresh (zAA _))];exact#[zAC (Gp xs lo hi) hz,_,(r.drop (HT.sIx xs.length 0 lo)).take (HT.sIx xs.length xs.length hi-HT.sIx xs.length 0 lo),IsTup.new _ _]
end
def Qq(n:Nat)(i:Int):Option Nat:=if 0<=i then (if i<n then some i.toNat else none)else if -(n:Int)<=i then some (i+n).toNat else none
def DR{α:Type}(xs:List α)(i:Int):Option α:=(Qq xs.length i).bind λj=>xs[j]?
theorem PV(h:Qq n i=some j):seqIndex? i n=some j/\j<n/\-(n:Int)<=i/\i<n:=by
 unfold Qq at h;by_cases h0:0<=i
 ·rw[if_pos h0]at h;by_cases h1:i<n
  ·rw[if_pos h1]at h;have e:i.toNat=j:=zAH h;exact#[by rw[seqIndex_of h0 h1,e],by omega,by omega,h1]
  ·rw[if_neg h1]at h;cases h
 ·rw[if_neg h0]at h;by_cases h1 : -(n:Int)<=i
  ·rw[if_pos h1]at h;have e:(i+n).toNat=j:=zAH h;exact#[by rw[seqIndex_neg %[|0] h1,e],by omega,h1,by omega]
  ·rw[if_neg h1]at h;cases h
theorem Ka{α:Type}{xs:List α}{v:α}(h:DR xs i=some v):∃j,Il (seqIndex? i xs.length=some j) (xs[j]? = some v) (j<xs.length) (-(xs.length:Int)<=i) (i<xs.length):=by
 unfold DR at h
 cases e:Qq xs.length i with
 |none=>rw[e]at h;cases h
 |some j=>
  rw[e]at h;obtain⟨h1,h2,h3,h4⟩:=PV e;exact#[j,h1,h,h2,h3,h4]
theorem Ac{α:Type}{xs:List α}{j:Nat}{v:α}(h:xs[j]? = some v):DR xs (j:Int)=some v:=by
 have hj:j<xs.length:=%[h|117].1
 have e:Qq xs.length (j:Int)=some j:=by
  unfold Qq;rw[if_pos %[|0],if_pos %[|0]];simp
 unfold DR;rw[e];exact h
def Pt(b:Expr):Prop:=∀o i,subscripted b false o i=operate [o,i] (getItem o i)
def XD(X:Cx)(r:R2):Prop:=
 ∀value fb pins s(σ:St)H x y v u Q,%[|4]->RelV x v->RelV y u->r x y H Q->
  subscripted fb false v u=operate [v,u] (getItem v u)->%[|20] (subscriptTail value fb v u) %[|51] X.xe s
def ZP(X:Cx)(id:String)(r:V->List V->Hp->VK->Prop):Prop:=
 ∀pins s(σ:St)H x xs v us Q,%[|4]->RelV x v->Vals xs us->r x xs H Q->
  wpAny %[|18] X.A (call (.builtin id) (v::us)) %[|51] X.xe s
section
variable {X:Cx}{a b:Expr}{ta tb:TE}{pos:Pos}
theorem ZM(hr:XD X r)(ha:PE X a ta)(hb:PE X b tb)(hs:Pt b):PE X (.Subscript a b pos) (Zv r ta tb):=by
 exists 0;exact Subscript_ (Yh ha hb I h λv u s2 x y H2 I2 rx ry q=>hr a b pins s2 σ H2 x y v u Q I2 rx ry q (hs _ _))
inductive Xj(K:PySem.W.Frag)(p:Addr)(i:Int)(H:Hp)(Q:VK):Prop|mk{xs v}(_:SqL K H p xs)(_:DR xs i=some v)(_:Q v H)
def bR(K:PySem.W.Frag):R2:=λx y H Q=>vR (λp=>vI (λi=>Xj K p i H Q) y) x
inductive Xd(K:PySem.W.Frag)(p:Addr)(i:Int)(H:Hp)(Q:VK):Prop|mk{xs v}(_:SqT K H p xs)(_:DR xs i=some v)(_:Q v H)
def bY(K:PySem.W.Frag):R2:=λx y H Q=>vR (λp=>vI (λi=>Xd K p i H Q) y) x
inductive ZR(x:V)(y:V)(H:Hp)(Q:VK):Prop|mk(z i c)(_:x=.str z)(_:y=.int i)(_:z.length<=sizeLine)(_:DR z.cps.toList i=some c)(_:Q (.str ⟨#v[c]⟩) H)
theorem Ay:XD X (bR X.K):=by
 exists 17;obtain⟨p,rfl,h0⟩:=C8 h;obtain⟨i,rfl,@⟨xs,z,hq,he,q⟩⟩:=FC h0;cases rx;obtain⟨t,rfl⟩:=ry;obtain⟨its,r,pl,hz⟩:=I.list hq;obtain⟨j,h1,h2,h3,h4,h5⟩:=Ka he;obtain⟨w,ew,rw'⟩:=r.get h2;have hl:=r.length;have hn:=EX;have dI:EP X pins σ Q w s:=#[z,H,I,rw',q];by_cases h0:0<=i
 ·have hj:i.toNat=j:=by
   rw[seqIndex_of h0 h5]at h1;exact zAH h1
  exact item_listR pl.isList h0 %[|0] (by rw[hj];simpa using ew) dI hs
 ·have hj:(i+(its.toArray.size:Int)).toNat=j:=by
   rw[seqIndex_neg %[|0] h4]at h1;rw[zAK,<-hl];exact zAH h1
  exact subscriptTail_builtinR (x:=w) pl.isList.typeIs slot_list_getitem.lookup
   (wpAny_getItem_list_neg (Q:=λr s'=>r=w/\EP X pins σ Q r s') pl.isList %[|0] (by rw[zAK]<;>omega) %[|0] (by rw[hj];simpa using ew) #[rfl,dI]) hs
theorem Ar:XD X (bY X.K):=by
 exists 17;obtain⟨p,rfl,h0⟩:=C8 h;obtain⟨i,rfl,@⟨xs,z,hq,he,q⟩⟩:=FC h0;cases rx;obtain⟨t,rfl⟩:=ry;obtain⟨its,r,pl,hz⟩:=I.tuple hq;obtain⟨j,h1,h2,h3,h4,h5⟩:=Ka he;obtain⟨w,ew,rw'⟩:=r.get h2;have hl:=r.length;have hn:=EX;have dI:EP X pins σ Q w s:=#[z,H,I,rw',q]
 exact subscriptTail_builtinR (x:=w) pl.typeIs slot_tuple_getitem.lookup
  (getItem_tuple (j:=j) (Q:=λr s'=>r=w/\EP X pins σ Q r s') pl %[|0] %[|0] (by rw[zAK,<-hl];exact h1) (by simpa using ew) #[rfl,dI]) hs
theorem F0:XD X ZR:=by
 exists 17;obtain⟨z,i,c,rfl,rfl,hz,he,q⟩:=h;exists 3;obtain⟨t',rfl⟩:=ry;obtain⟨j,h1,h2,h3,h4,h5⟩:=Ka he;have hl:z.cps.toList.length=z.length:=by simp[Str.length]
 rw[hl]at h1 h4 h5;have hn:=EX
 exact tail_any (typeIs_str s z t) slot_str_getitem.lookup (getItem_str (c:=c) (by
  have e1:decide (i < -(2^63:Int))=false:=decide_eq_false %[|0]
  have e2:decide (i>=2^63)=false:=decide_eq_false %[|0]
  rw[e1,e2,zCO]) (by rw[h1];simpa using h2) #[.str #[#v[c]],H,I.tok _,#[_,rfl],q]) hs
theorem Nm(its:%[|6])(n j:Nat)(u:Value):Obj.mapSeq (·.setIfInBounds j u) {cls:=.type "list",data:=.seq its.toArray n}={cls:=.type "list",data:=.seq (its.set j u).toArray n}:=by
 simp[Obj.mapSeq]
theorem Inv.lst{pins:%[|19]}{σ:St}{H:Hp}{s:Shared}{p:Addr}{xs:List V}(I:%[|4])(h:H p=some %[|12]):
  Cd λ(its:%[|6])(n:Nat)=>BV (Vals xs its) (s.heap.get? p=some {cls:=.type "list",data:=.seq its.toArray n}) (xs.length<=sizeLine):=by
 obtain⟨z,its,n,r,e⟩:=I.hok p _ h;exact#[its,n,r,e,z]
theorem Inv.lstUpd{pins:%[|19]}{xs ys:List V}{its its':%[|6]}{n n':Nat}(I:%[|4])(h:H p=some %[|12])(ho:s.heap.get? p=some {cls:=.type "list",data:=.seq its.toArray n})(hf:f {cls:=.type "list",data:=.seq its.toArray n}={cls:=.type "list",data:=.seq its'.toArray n' })(r:Vals ys its')(hz:ys.length<=sizeLine)(t:Nat):
  Inv X pins σ (upd H p (.lst ys)) {s with heap:=s.heap.update p f,toks:=t}:=by
 have e:(s.heap.update p f).get? p=some {cls:=.type "list",data:=.seq its'.toArray n' }:=by
  rw[Heap.get?_update_self f ho (by rw[hf]<;>rfl),hf]
 refine I.write (x:=p) (e:=p) (by rw[h];trivial) (.inl rfl) (λb u hb q=>(Heap.get?_update_other _ _ (zB hb)).trans q) #[_,e] ?_;exact#[hz,its',n',r,e]
inductive XS(o:V)(i:V)(v:V)(H:Hp)(Q:(Hp->Prop)):Prop|mk(p xs k j)(_:o=.ref p)(_:i=.int k)(_:H p=some %[|12])(_:Qq xs.length k=some j)(_:Q (upd H p (.lst (xs.set j v))))
theorem HI:VX X XS:=by
 intro pins s σ H o i v ov iv u Q I ro ri rv h;obtain⟨p,xs,k,j,rfl,rfl,hp,hj,q⟩:=h;cases ro;obtain⟨t,rfl⟩:=ri;obtain⟨its,n,r,ho,hz⟩:=I.lst hp;obtain⟨h1,h2,h3,h4⟩:=PV hj;have hl:=r.length;have hn:=EX
 have I':%[|16] (upd H p (.lst (xs.set j v))) {s with heap:=s.heap.update p (Obj.mapSeq (·.setIfInBounds j u))}:=
  I.lstUpd hp ho (Nm its n j u) (r.set rv j) (by rw[List.length_set];exact hz) s.toks
 by_cases h0:0<=k
 ·have hk:k.toNat=j:=by
   rw[seqIndex_of h0 h4]at h1;exact zAH h1
  exact PySem.W.ki_setAt ho h0 %[|0] (by rw[zAK,<-hl];exact h4) (by rw[hk];exact#[_,I',q])
 ·have hk:(k+(its.toArray.size:Int)).toNat=j:=by
   rw[seqIndex_neg %[|0] h3]at h1;rw[zAK,<-hl];exact zAH h1
  exact PySem.W.ki_setBack ho %[|0] (by rw[zAK,<-hl];exact h3) %[|0] (by rw[hk];exact#[_,I',q])
theorem Kl(lo hi:Option Int)(n:Nat):(sliceBounds lo hi none n).1=((HT.sIx n 0 lo:Nat):Int)/\(sliceBounds lo hi none n).2.1=((HT.sIx n n hi:Nat):Int)/\(sliceBounds lo hi none n).2.2=1:=by
 refine#[?_,?_,rfl]
 ·cases lo with
  |none=>simp[sliceBounds,HT.sIx]
  |some i=>
   simp only[sliceBounds,HT.sIx,Option.getD_none,show (1:Int)>0 by decide,if_true];by_cases h:i<0
   ·simp only[h,if_true]<;>omega
   ·simp only[h,if_false]<;>omega
 ·cases hi with
  |none=>simp[sliceBounds,HT.sIx]
  |some i=>
   simp only[sliceBounds,HT.sIx,Option.getD_none,show (1:Int)>0 by decide,if_true];by_cases h:i<0
   ·simp only[h,if_true]<;>omega
   ·simp only[h,if_false]<;>omega
theorem Ij(its:%[|6])(lo hi:Option Int):slicePick its.toArray lo hi none=((its.drop (HT.sIx its.length 0 lo)).take (HT.sIx its.length its.length hi-HT.sIx its.length 0 lo)).toArray:=by
 obtain⟨h1,h2,h3⟩:=Kl lo hi its.toArray.size;unfold slicePick;rw[h1,h2,h3];simp only[sliceRange_one,pick_run,zAK]<;>rfl
inductive aC(K:PySem.W.Frag)(x:V)(lo:Option Int)(hi:Option Int)(H:Hp)(Q:VK):Prop|mk(a xs)(_:x=.ref a)(_:SqL K H a xs)(_:∀p,H p=none->Q (.ref p) (upd H p (.lst (GG xs lo hi))))
theorem OX:bH X (aC X.K):=by
 intro pins s σ H x v vl vu lo hi sl Q I rx hs pl pu h;obtain⟨a,xs,rfl,hx,q⟩:=h;cases rx;obtain⟨its,r,ht,hz⟩:=I.list hx;have dj:=r.length;refine#["list",_,slot_list_getitem.lookup,ht.isList.typeIs,?_];refine wpAny_getItem_list_slice ht.isList hs pl pu .none %[|1] ?_ (by rw[zAK]<;>omega);rw[Ij,<-dj];refine#[.ref s.heap.objs.size,_,I.laid (t':=s.toks) (o:=.lst (GG xs lo hi)) (λb ob q=>Heap.get?_push_of_some _ q) (zAA _) ?_,rfl,q _ (I.hok.fresh (zAA _))];exact#[zAC (Gp xs lo hi) hz,_,0,(r.drop (HT.sIx xs.length 0 lo)).take (HT.sIx xs.length xs.length hi-HT.sIx xs.length 0 lo),Heap.get?_push_size _ rfl]
def C9:V->Bool
 |.non=>true
 |.bl _=>true
 |.int _=>true
 |.str _=>true
 |_=>false
def MM:V->V->Bool
 |.non,.non=>true
 |.bl a,.bl b=>a == b
 |.bl a,.int b=>(if a then 1 else 0) == b
 |.int a,.bl b=>a == (if b then 1 else 0)
 |.int a,.int b=>a == b
 |.str a,.str b=>a == b
 |_,_=>false
theorem YT(ry:RelV y u)(rx:RelV x v)(fy:C9 y=true)(fx:C9 x=true):SeqAt.EqAt A s u v (MM y x):=by
 cases y with
 |non=>
  cases ry
  cases x with
  |non=>cases rx;exact zB0 _
  |bl b=>cases rx;exact SeqAt.EqAt.none_bool b
  |int b=>obtain⟨t,rfl⟩:=rx;exact SeqAt.EqAt.none_int b t
  |str b=>obtain⟨t,rfl⟩:=rx;exact SeqAt.EqAt.none_str b t
  |_=>exact absurd (show false=true from fx) zAG
 |bl a=>
  cases ry
  cases x with
  |non=>cases rx;exact SeqAt.EqAt.bool_none a
  |bl b=>cases rx;exact SeqAt.EqAt.bool_bool a b
  |int b=>obtain⟨t,rfl⟩:=rx;exact SeqAt.EqAt.bool_int a b t
  |str b=>obtain⟨t,rfl⟩:=rx;exact SeqAt.EqAt.bool_str a b t
  |_=>exact absurd (show false=true from fx) zAG
 |int a=>
  obtain⟨t',rfl⟩:=ry
  cases x with
  |non=>cases rx;exact SeqAt.EqAt.int_none a t'
  |bl b=>cases rx;exact SeqAt.EqAt.int_bool a t' b
  |int b=>obtain⟨t,rfl⟩:=rx;exact SeqAt.EqAt.int_int a t' b t
  |str b=>obtain⟨t,rfl⟩:=rx;exact SeqAt.EqAt.int_str a t' b t
  |_=>exact absurd (show false=true from fx) zAG
 |str a=>
  obtain⟨t',rfl⟩:=ry
  cases x with
  |non=>cases rx;exact SeqAt.EqAt.str_none a t'
  |bl b=>cases rx;exact SeqAt.EqAt.str_bool a t' b
  |int b=>obtain⟨t,rfl⟩:=rx;exact SeqAt.EqAt.str_int a t' b t
  |str b=>obtain⟨t,rfl⟩:=rx;exact zDJ a t' b t
  |_=>exact absurd (show false=true from fx) zAG
 |_=>exact absurd (show false=true from fy) zAG
def L7(x:V)(u:Value):Bool:=match u with
 |.none=>MM .non x
 |.bool b=>MM (.bl b) x
 |.int i _=>MM (.int i) x
 |.str z _=>MM (.str z) x
 |_=>false
theorem MZ(r:RelV y u)(f:C9 y=true):L7 x u=MM y x:=by
 cases y with
 |non=>cases r;rfl
 |bl b=>cases r;rfl
 |int i=>obtain⟨t,rfl⟩:=r;rfl
 |str z=>obtain⟨t,rfl⟩:=r;rfl
 |_=>exact absurd (show false=true from f) zAG
theorem Fv{x:V}:∀{xs:List V}{us:%[|6]},Vals xs us->xs.all C9=true->us.any (L7 x)=xs.any λy=>MM y x
 |_,_,.nil,_=>rfl
 |y::xs,u::us,.cons r t,f=>by
  rw[zC5,zAX]at f;rw[zBW,zBW,MZ r f.1,Fv t f.2]
theorem Dx{A:Around}{s:Shared}{x:V}{v:Value}(rx:RelV x v)(fx:C9 x=true):∀{xs:List V}{us:%[|6]},Vals xs us->xs.all C9=true->∀u∈us,SeqAt.EqAt A s u v (L7 x u)
 |_,_,.nil,_=>λu hu=>by cases hu
 |y::xs,u::us,.cons r t,f=>λu' hu=>by
  rw[zC5,zAX]at f;rcases List.mem_cons.mp hu with rfl|hu
  ·rw[MZ r f.1];exact YT r rx f.1 fx
  ·exact Dx rx fx t f.2 u' hu
def Oc(x:V)(xs:List V):Bool:=xs.any λy=>MM y x
inductive aX(K:PySem.W.Frag)(neg:Bool)(x:V)(y:V)(H:Hp)(Q:VK):Prop|mk(p xs)(_:y=.ref p)(_:(SqL K H p xs\/SqT K H p xs))(_:C9 x=true)(_:xs.all C9=true)(_:Q (.bl (if neg then !Oc x xs else Oc x xs)) H)
theorem Ez:Dy X (compareOp .In) (aX X.K false):=by
 exists 2;obtain⟨p,xs,rfl,hq,fx,fs,q⟩:=h;cases ry;rcases hq with hq|hq
 ·obtain⟨its,r,pl,hz⟩:=I.list hq;refine SeqAt.in_listAt (L7 x) pl.isList (λw hw=>Dx rx fx r fs w (by simpa using hw)) #[.bl _,H,I,rfl,?_];rw[show its.toArray.any (L7 x)=its.any (L7 x) by simp,Fv r fs];exact q
 ·obtain⟨its,r,pl,hz⟩:=I.tuple hq;refine SeqAt.in_tupleAt (L7 x) pl (λw hw=>Dx rx fx r fs w (by simpa using hw)) #[.bl _,H,I,rfl,?_];rw[show its.toArray.any (L7 x)=its.any (L7 x) by simp,Fv r fs];exact q
theorem Fp:Dy X (compareOp .NotIn) (aX X.K true):=by
 exists 2;obtain⟨p,xs,rfl,hq,fx,fs,q⟩:=h;cases ry;rcases hq with hq|hq
 ·obtain⟨its,r,pl,hz⟩:=I.list hq;refine SeqAt.notIn_listAt (L7 x) pl.isList (λw hw=>Dx rx fx r fs w (by simpa using hw)) #[.bl _,H,I,rfl,?_];rw[show its.toArray.any (L7 x)=its.any (L7 x) by simp,Fv r fs];exact q
 ·obtain⟨its,r,pl,hz⟩:=I.tuple hq;refine SeqAt.notIn_tupleAt (L7 x) pl (λw hw=>Dx rx fx r fs w (by simpa using hw)) #[.bl _,H,I,rfl,?_];rw[show its.toArray.any (L7 x)=its.any (L7 x) by simp,Fv r fs];exact q
inductive Z8(K:PySem.W.Frag)(p:Addr)(H:Hp)(Q:VK):Prop|mk{ys}(_:(SqL K H p ys\/SqT K H p ys))(_:Q (.int ys.length) H)
def HM(K:PySem.W.Frag)(xs:List V)(H:Hp)(Q:VK):Prop:=l1 (vR λp=>Z8 K p H Q) xs
theorem A3:Cf X (.builtin "len") (HM X.K):=by
 exists 4;obtain⟨_,rfl,h0⟩:=O8 h;obtain⟨p,rfl,@⟨ys,hq,q⟩⟩:=C8 h0;obtain⟨u,rfl,rx⟩:=C3 r;cases rx;have hn:=EX;rcases hq with hq|hq
 ·obtain⟨its,r',pl,hz⟩:=I.list hq;have dj:=r'.length;exact Calls.call_len_list pl.isList (by simp only[zAK]<;>omega) #[.int ys.length,H,I.tok _,#[s.toks+1,by rw[zAK,dj]],q]
 ·obtain⟨its,r',pl,hz⟩:=I.tuple hq;have dj:=r'.length;exact len_tuple pl (by simp only[zAK]<;>omega) #[.int ys.length,H,I.tok _,#[s.toks+1,by rw[zAK,dj]],q]
inductive DT(xs:List V)(H:Hp)(Q:VK):Prop|mk(z)(_:xs=[.str z])(_:z.length<=sizeLine)(_:Q (.int z.length) H)
theorem Kb:Cf X (.builtin "len") (DT):=by
 exists 4;obtain⟨z,rfl,hz,q⟩:=h;obtain⟨u,rfl,t,rfl⟩:=C3 r;have hn:=EX;exact len_str %[|0] #[.int z.length,H,I.tok _,#[_,rfl],q]
inductive Xn(K:PySem.W.Frag)(p:Addr)(H:Hp)(Q:VK):Prop|mk{ys}(_:(SqL K H p ys\/SqT K H p ys))(_:∀l,H l=none->Q (.ref l) (upd H l (.lst ys)))
def G5(K:PySem.W.Frag)(xs:List V)(H:Hp)(Q:VK):Prop:=l1 (vR λp=>Xn K p H Q) xs
theorem AZ:Cf X (.type "list") (G5 X.K):=by
 exists 4;obtain⟨_,rfl,h0⟩:=O8 h;obtain⟨p,rfl,@⟨ys,hq,q⟩⟩:=C8 h0;obtain⟨u,rfl,rx⟩:=C3 r;cases rx
 have dI:∀(its:%[|6]),Vals ys its->ys.length<=sizeLine->∀(h':Heap)(c':Nat),(∀b o',s.heap.get? b=some o'->h'.get? b=some o')->
   h'.get? s.heap.objs.size=some {cls:=.type "list",dict:=none,data:=.seq its.toArray c',slots:=#v[]}->EP X pins σ Q %[|46] {s with heap:=h' }:=λits r' hz h' c' kp e=>
  #[.ref s.heap.objs.size,_,I.laid (t':=s.toks) kp (zAA _) (show A0Q X.prog X.w _ h' _ (.lst ys) from#[hz,its,c',r',e]),rfl,q _ (I.hok.fresh (zAA _))]
 rcases hq with hq|hq
 ·obtain⟨its,r',pl,hz⟩:=I.list hq;have dj:=r'.length;obtain⟨o,ho,hc,n,hd⟩:=pl.isList;exact call_list_seq p (.inl rfl) ho hc hd (λh' c' kp e=>dI its r' hz h' c' kp e) (by simp only[zAK]<;>omega)
 ·obtain⟨its,r',pl,hz⟩:=I.tuple hq;have dj:=r'.length;obtain⟨o,ho,hc,n,hd⟩:=pl;exact call_list_seq p (.inr rfl) ho hc hd (λh' c' kp e=>dI its r' hz h' c' kp e) (by simp only[zAK]<;>omega)
def bC(K:PySem.W.Frag)(T:String)(x:V)(H:Hp):Prop:=match x with
 |.str _=>T="str"
 |.int _=>T="int"
 | .ref p=>(T="list"/\∃xs,SqL K H p xs)\/(T="tuple"/\∃o,BV (K.lookup p=some o) (o.cls=.type "tuple") (o.dict=none))\/
   (T="dict"/\((∃kvs,H p=some (.dK kvs))\/∃kvs,H p=some (.dT kvs)))\/(T="set"/\Cd λS n=>H p=some (.set S n))
 |_=>False
theorem Tq(I:%[|4])(r:RelV x v)(ty:bC X.K T x H):
  s.TypeIs v T/\∀a,v=.ref a->∃ob,s.heap.get? a=some ob/\ob.dict=none:=by
 cases x with
 |str z=>
  obtain⟨t,rfl⟩:=r;cases (show T="str" from ty);exact#[typeIs_str s z t,λ_ e=>nomatch e]
 |int i=>
  obtain⟨t,rfl⟩:=r;cases (show T="int" from ty);exact#[typeIs_int s i t,λ_ e=>nomatch e]
 |ref p=>
  cases r;rcases ty with⟨rfl,xs,hq⟩|⟨rfl,o,hk,hc,hd⟩|⟨rfl,hk⟩|⟨rfl,S,n,hk⟩
  ·obtain⟨its,_,pl,_⟩:=I.list hq;refine#[pl.isList.typeIs,λa e=>?_];cases e;obtain⟨o,n,e,c,hd,_⟩:=pl;exact#[o,e,hd]
  ·refine#[#[o,I.kIn p o hk,hc],λa e=>?_];cases e;exact#[o,I.kIn _ o hk,hd]
  ·have z:∃o,s.heap.get? p=some o/\o.ExactDict:=by
    rcases hk with⟨kvs,hk⟩|⟨kvs,hk⟩
    ·obtain⟨_,_,_,_,o,_,_,e,ex,_⟩:=I.hok p _ hk;exact#[o,e,ex]
    ·obtain⟨_,_,_,_,o,_,_,e,ex,_⟩:=I.hok p _ hk;exact#[o,e,ex]
   obtain⟨o,e,ex⟩:=z;refine#[#[o,e,ex.1],λa e2=>?_];cases e2;exact#[o,e,ex.2.1]
  ·obtain⟨o,_,_,_,e,ex,_⟩:=I.hok p _ hk;refine#[#[o,e,ex.1],λa e2=>?_];cases e2;exact#[o,e,ex.2.1]
 |_=>exact False.elim ty
def ZF(K:PySem.W.Frag)(T:String)(r:V->List V->Hp->VK->Prop)(to:TE):TE:=λσ H Q=>to σ H λx H1=>bC K T x H1/\r x [] H1 Q
def cq(K:PySem.W.Frag)(T:String)(r:V->List V->Hp->VK->Prop)(to:TE)(t:TA):TE:=λσ H Q=>to σ H λx H1=>bC K T x H1/\t σ H1 λxs H2=>r x xs H2 Q
variable {o e:Expr}{es:%[|22]}{to:TE}{t:TA}{name:Str}{dF dC:Pos}{T id:String}{r:V->List V->Hp->VK->Prop}
theorem Ui(pa:PlainAttrs T)(slot:Slot T name id)(hty:typeOf (.builtin id)=pure (.type "method_descriptor"))(hm:ZP X id r)(ho:PE X o to)(gu:attributeBase o name X.env (eval o X.env)=eval o X.env:=by rfl)(fX:(dF.endLine == dC.line)=true:=by rfl):PE X (.Call (.Attribute o name dF) [] [] dC) (ZF X.K T r to):=by
 exists 0;refine wpAny_Call_method0_late gu fX (AU (ho pins s σ H _ I h) λv s1 ⟨x,H1,I1,r1,ty,q1⟩=>?_);obtain⟨h1,h2⟩:=Tq I1 r1 ty;exact#[T,id,pa,slot,hty,h1,h2,zC1 rfl (PySem.evalArgs_none (hm pins s1 σ H1 x [] v [] Q I1 r1 .nil q1))]
theorem Eh(pa:PlainAttrs T)(slot:Slot T name id)(hty:typeOf (.builtin id)=pure (.type "method_descriptor"))(hm:ZP X id r)(ho:PE X o to)(ha:PA X (e::es) t)(gu:attributeBase o name X.env (eval o X.env)=eval o X.env:=by rfl)(hfew:((backTo dC (starEach (e::es) X.env)).all (λx=>!x.1) && (backToKw dC (keywordEach [] X.env)).all (λx=>x.1.isSome)
   && decide %[|107])=true:=by rfl)(fX:(dF.endLine == dC.line)=true:=by rfl)(hs:starEach (e::es) X.env=%[|52]::starEach es X.env:=by rfl)(gQ:(backTo dC (starEach es X.env)).any (·.1)=false:=by rfl):
  PE X (.Call (.Attribute o name dF) (e::es) [] dC) (cq X.K T r to t):=by
 exists 0;refine wpAny_Call_method_late gu hfew fX rfl (AU (ho pins s σ H _ I h) λv s1 ⟨x,H1,I1,r1,ty,q1⟩=>?_);obtain⟨h1,h2⟩:=Tq I1 r1 ty;refine#[T,id,pa,slot,hty,h1,h2,?_];have hA:=ha dC pins s1 σ H1 _ I1 q1;rw[hs]at hA ⊢;refine zC1 (by show (false || (backTo dC (starEach es X.env)).any (·.1))=false;rw[gQ]<;>rfl) (Calls.evalArgs_plain ?_);exact AU hA λus s2 ⟨vs,H2,I2,r2,q2⟩=>hm pins s2 σ H2 x vs v us Q I2 r1 r2 q2
end
def aT(X:Cx)(id:String)(r:V->List V->Hp->VK->Prop):Prop:=
 ∀pins s(σ:St)H x xs v us Q,%[|4]->RelV x v->Vals xs us->r x xs H Q->
  wpAny %[|18] X.A (call (.builtin id) (v::us)) %[|51] X.xe s
theorem Vals.one:∀{x:V}{us:%[|6]},Vals [x] us->∃u,us=[u]/\RelV x u
 |_,_,.cons r .nil=>#[_,rfl,r]
theorem Vals.zero:∀{us:%[|6]},Vals [] us->us=[]
 |_,.nil=>rfl
theorem Vals.dropLast(h:Vals xs us):Vals xs.dropLast us.dropLast:=by
 induction h with
 |nil=>exact .nil
 |cons r t ih=>
  cases t with
  |nil=>exact .nil
  |cons q t'=>exact .cons r ih
theorem Vals.reverse(h:Vals xs us):Vals xs.reverse us.reverse:=by
 induction h with
 |nil=>exact .nil
 |cons r t ih=>rw[zCZ,zCZ];exact Vals.append ih (.cons r .nil)
theorem Vals.rep{xs:List V}{us:%[|6]}(h:Vals xs us):∀k:Nat,Vals (List.replicate k xs).flatten (List.replicate k us).flatten
 |0=>.nil
 |k+1=>by
  rw[zBF,zBF,zCL,zCL];exact Vals.append h (Vals.rep h k)
theorem NM{α:Type}(l:List α):l.eraseIdx (l.length-1)=l.dropLast:=by
 induction l with
 |nil=>rfl
 |cons a r ih=>
  cases r with
  |nil=>rfl
  |cons b r=>
   have e:(a::b::r).length-1=((b::r).length-1)+1:=by
    have h1:(a::b::r).length=r.length+2:=rfl;have h2:(b::r).length=r.length+1:=rfl;omega
   rw[e,List.eraseIdx_cons_succ,ih]
   all_goals rfl
theorem IY(its:%[|6]):∀(k:Nat)(acc:%[|6]),
  List.foldl (λx1 x2=>x1++x2) acc.toArray (List.replicate k its.toArray)=(acc++(List.replicate k its).flatten).toArray
 |0,acc=>by simp
 |k+1,acc=>by
  have e:acc.toArray++its.toArray=(acc++its).toArray:=by simp
  have e2:(acc++its)++(List.replicate k its).flatten=acc++(List.replicate (k+1) its).flatten:=by
   rw[zBF,zCL,zB2]
  rw[<-e2,<-IY its k (acc++its),<-e,zBF,List.foldl_cons]
section
variable {X:Cx}{pins:%[|19]}{σ:St}{H:Hp}{s:Shared}{l b:Addr}{xs ys zs:List V}
theorem Inv.lset{its its':%[|6]}{n:Nat}{t':Nat}(I:%[|4])(hH:H l=some %[|12])(e:s.heap.get? l=some {cls:=.type "list",data:=.seq its.toArray n})(hf:f its.toArray=its'.toArray)(hv:Vals ys its')(hz:ys.length<=sizeLine):
  Inv X pins σ (upd H l (.lst ys)) {s with heap:=s.heap.update l (Obj.mapSeq f),toks:=t' }:=by
 have q:=PySem.IsL.update e f;rw[hf]at q;refine I.write (x:=l) (e:=l) (by rw[hH];exact trivial) (.inl rfl) (λb' u hb hu=>(Heap.get?_update_other s.heap (Obj.mapSeq f) (zB hb)).trans hu) #[_,q] ?_;exact#[hz,its',_,hv,q]
theorem Inv.lnew(I:%[|4])(hv:Vals ys its)(hz:ys.length<=sizeLine):
  Inv X pins σ (upd H s.heap.objs.size (.lst ys)) {s with heap:=s.heap.push {cls:=.type "list",data:=.seq its.toArray},toks:=t' }:=
 I.laid (λ_ _ q=>Heap.get?_push_of_some _ q) (zAA _) #[hz,its,0,hv,Heap.get?_push_size _ rfl]
theorem Inv.fresh(I:%[|4]):H s.heap.objs.size=none:=I.hok.fresh (zAA _)
theorem Inv.lstM(I:%[|4])(hH:H l=some %[|12]):xs.length<=sizeLine/\Cd λ(its:%[|6])(n:Nat)=>BV (Vals xs its) (xs.length=its.length) (s.heap.get? l=some {cls:=.type "list",data:=.seq its.toArray n}):=by
 obtain⟨z,its,n,r,e⟩:=I.hok l _ hH;exact#[z,its,n,r,r.length,e]
theorem Le(h:n<=sizeLine):Builtin.List.listTooLong n=false:=by
 unfold Builtin.List.listTooLong;exact decide_eq_false %[|0]
end
section
variable {X:Cx}
inductive Xt(l:Addr)(y:V)(H:Hp)(Q:VK):Prop|mk{xs}(_:H l=some %[|12])(_:xs.length<sizeLine)(_:Q .non (upd H l (.lst (xs++[y]))))
def OV(x:V)(vs:List V)(H:Hp)(Q:VK):Prop:=vR (λl=>l1 (λy=>Xt l y H Q) vs) x
theorem IW:aT X "list.append" OV:=by
 exists 15;obtain⟨l,rfl,h0⟩:=C8 h;obtain⟨y,rfl,@⟨xs,hH,hz,q⟩⟩:=O8 h0;cases rx;obtain⟨u,rfl,ru⟩:=rv.one;obtain⟨z,its,n,r,hl,e⟩:=I.lstM hH;refine call_meets F.slot_list_append #[_,e,rfl] F.entry_list_append (F.args_list_append_2 _ _) (PySem.list_append l its.toArray n u (by rw[zAK];omega)) #[e,?_];refine#[.non,_,I.lset (its':=its++[u]) hH e %[|1] (r.append (.cons ru .nil)) ?_,rfl,q];rw[zA,List.length_singleton];omega
inductive Oj(x:V)(vs:List V)(H:Hp)(Q:VK):Prop|mk(l b xs zs)(_:x=.ref l)(_:vs=[.ref b])(_:H l=some %[|12])(_:H b=some (.lst zs))(_:xs.length+zs.length<=sizeLine)(_:Q .non (upd H l (.lst (xs++zs))))
theorem FR:aT X "list.extend" Oj:=by
 exists 15;obtain⟨l,b,xs,zs,rfl,rfl,hH,hB,hz,q⟩:=h;cases rx;obtain⟨u,rfl,ru⟩:=rv.one;cases ru;obtain⟨z,its,n,r,hl,e⟩:=I.lstM hH;obtain⟨z2,dD,n2,r2,dG,e2⟩:=I.lstM hB;have hsz:its.toArray.size+dD.toArray.size<=sizeLine:=by rw[zAK,zAK];omega
 have iX:¬(!its.toArray.isEmpty && Builtin.List.listTooLong (its.toArray.size+dD.toArray.size))=true:=by
  rw[Le hsz,Bool.and_false];exact zAG
 refine call_meets F.slot_list_extend #[_,e,rfl] F.entry_list_extend (F.args_list_extend_2 _ _)
  (AutoSeq1.list_extend_list_list_0 l its.toArray n b dD.toArray n2 iX (by rw[zAK];omega) %[|0]) #[e,e2,?_]
 refine#[.non,_,I.lset (its':=its++dD) hH e %[|1] (r.append r2) ?_,rfl,q];rw[zA];omega
inductive Xb(l:Addr)(H:Hp)(Q:VK):Prop|mk{xs y}(_:H l=some %[|12])(_:xs[xs.length-1]? = some y)(_:Q y (upd H l (.lst xs.dropLast)))
def ZY(x:V)(vs:List V)(H:Hp)(Q:VK):Prop:=vR (λl=>l0 (Xb l H Q) vs) x
theorem XY:aT X "list.pop" ZY:=by
 exists 15;obtain⟨l,rfl,h0⟩:=C8 h;obtain⟨rfl,@⟨xs,y,hH,hy,q⟩⟩:=Xm h0;cases rx;have hus:=rv.zero;subst hus;obtain⟨z,its,n,r,hl,e⟩:=I.lstM hH;obtain⟨u,hu,ru⟩:=r.get hy
 have hy':its.toArray[its.toArray.size-1]? = some u:=by
  show its.toArray[its.length-1]? = some u;rw[<-Array.getElem?_toList,<-hl];exact hu
 refine call_meets F.slot_list_pop #[_,e,rfl] F.entry_list_pop (F.args_list_pop_1 _) (MeetsSeq.list_pop_last l its.toArray n u hy' (by rw[zAK];omega)) #[e,?_];refine#[y,_,I.lset (its':=its.dropLast) hH e ?_ r.dropLast ?_,ru,q]
 ·show its.toArray.eraseIdxIfInBounds (its.toArray.size-1)=its.dropLast.toArray;rw[zAK,List.eraseIdxIfInBounds_toArray,NM]
 ·rw[zBR];omega
inductive Mx(x:V)(vs:List V)(H:Hp)(Q:VK):Prop|mk(l xs)(_:x=.ref l)(_:vs=[])(_:H l=some %[|12])(_:Q .non (upd H l (.lst xs.reverse)))
theorem M7:aT X "list.reverse" Mx:=by
 exists 15;obtain⟨l,xs,rfl,rfl,hH,q⟩:=h;cases rx;have hus:=rv.zero;subst hus;obtain⟨z,its,n,r,hl,e⟩:=I.lstM hH;refine call_meets F.slot_list_reverse #[_,e,rfl] F.entry_list_reverse (F.args_list_reverse_1 _) (AutoSeq1.list_reverse_list_0 l its.toArray n (by rw[zAK];omega)) #[e,?_];refine#[.non,_,I.lset (its':=its.reverse) hH e %[|1] r.reverse ?_,rfl,q];rw[List.length_reverse];omega
inductive ZS(x:V)(y:V)(H:Hp)(Q:VK):Prop|mk(l b xs zs)(_:x=.ref l)(_:y=.ref b)(_:H l=some %[|12])(_:H b=some (.lst zs))(_:xs.length+zs.length<=sizeLine)(_:∀p,H p=none->Q (.ref p) (upd H p (.lst (xs++zs))))
theorem Te:Dy X (binaryOp .Add) ZS:=by
 exists 2;obtain⟨l,b,xs,zs,rfl,rfl,hH,hB,hz,q⟩:=h;cases rx;cases ry;obtain⟨z,its,n,r,hl,e⟩:=I.lstM hH;obtain⟨z2,dD,n2,r2,dG,e2⟩:=I.lstM hB;refine PySem.P.add_list e e2 ?_ (by rw[zAK,zAK];omega);have ea:its.toArray++dD.toArray=(its++dD).toArray:=by simp
 rw[ea];exact#[.ref _,_,I.lnew (t':=s.toks) (r.append r2) (by rw[zA];omega),rfl,q _ I.fresh]
inductive aQ(x:V)(y:V)(H:Hp)(Q:VK):Prop|mk(l k xs)(_:x=.ref l)(_:y=.int k)(_:H l=some %[|12])(_ : -(2^63)<=k)(_:k<2^63)(_:xs.length*k.toNat<=sizeLine)(_:∀p,H p=none->Q (.ref p) (upd H p (.lst (List.replicate k.toNat xs).flatten)))
theorem Ws{α:Type}(xs:List α)(k:Nat):(List.replicate k xs).flatten.length=k*xs.length:=by
 induction k with
 |zero=>simp
 |succ k ih=>rw[zBF,zCL,zA,ih,Nat.succ_mul,Nat.add_comm]
theorem Yi:Dy X (binaryOp .Mult) aQ:=by
 exists 2;obtain⟨l,k,xs,rfl,rfl,hH,h1,h2,hz,q⟩:=h;cases rx;obtain⟨t,rfl⟩:=ry;obtain⟨z,its,n,r,hl,e⟩:=I.lstM hH;have dj:its.toArray.size*k.toNat<=sizeLine:=by rw[zAK,<-hl];exact hz
 have hcap:¬its.toArray.size*k.toNat>(2^63-1) / 8:=by
  have:(sizeLine:Nat)<=(2^63-1) / 8:=by decide
  omega
 have hfit:¬(!Builtin.List.listFitsIndex k)=true:=by
  rw[fitsIndex_both h1 h2];exact zAG
 have iX:¬Builtin.List.listTooLong (its.toArray.size*k.toNat)=true:=by
  rw[Le dj];exact zAG
 have hnew:List.foldl (λx1 x2=>x1++x2) #v[] (List.replicate (if its.toArray.isEmpty=true then 0 else k.toNat) its.toArray)=(List.replicate k.toNat its).flatten.toArray:=by
  have f0:∀m:Nat,List.foldl (λx1 x2=>x1++x2) #v[] (List.replicate m its.toArray)=(List.replicate m its).flatten.toArray:=λm=>by
   have:=IY its m [];rw[List.nil_append]at this;exact this
  rw[f0]
  cases its with
  |nil=>simp
  |cons a r'=>rw[if_neg %[|1]]
 refine wpAny_binaryOp_repeat_ref (T:="list") (U:="int") %[|2] #[_,e,rfl] (λs'=>typeIs_int s' k t) noFill_list_mul F.fills_int_mul F.slot_int_rmul repeat_list F.slot_int_index.lookup
  (call_meets F.slot_int_rmul (typeIs_int s k t) F.entry_int_rmul (F.args_int_rmul_2 _ _) (int___rmul___int_list k t l its.toArray n)
   #[e,rfl,#[_,e,rfl],call_meets F.slot_list_mul #[_,e,rfl] F.entry_list_mul (F.args_list_mul_2 _ _) (AutoListH.list___mul___list_int_3 l its.toArray n k t hfit hcap iX) #[e,?_]])
 rw[hnew];exact#[.ref _,_,I.lnew (t':=s.toks) (r.rep k.toNat) (by rw[Ws,Nat.mul_comm];exact hz),rfl,q _ I.fresh]
end
section
variable {prog:Program}{w:World}{A:Around}{E:Value->Shared->Prop}{s:Shared}
end
section
variable {X:Cx}
end
end L2
namespace Att
open PySem PySem.W PySem.Calls PyProof.Rows
theorem GE:∀ns vs,WellAll P h vs (ns.map WData.int)->IntsAre vs ns:=by
 intro ns
 induction ns with
 |nil=>
  intro vs w;rw[zDN]at w;cases w;exact .nil
 |cons n ns ih=>
  intro vs w;rw[zAS]at w
  cases w with
  |cons a b=>
   cases a;exact .cons _ _ (ih _ b)
theorem QM{l:OpenLaw}{n:Nat}(hn:l.most=some n){P:Params}{h:Heap}{args:List WData}{jB:%[|6]}(jC:l.row.toRowW.claim.pre args=true)(fM:WellAll P h jB args):
  Fb λa vs ns=>Il (jB=[Value.ref a]) (args=[WData.list (ns.map WData.int)]) (h.get? a=some {cls:=.type "list",data:=.seq vs.toArray}) (IntsAre vs ns) (ns.length<=n):=by
 have ix:WShape.hasAll [] args [.list .int]=true:=(pre_splitW jC).1;have hc:l.pre.holds [] {args:=args}=true:=(pre_splitW jC).2;obtain⟨d,r,rfl,h1,h2⟩:=hasAllW_cons ix;obtain rfl:=hasAllW_nil h2;obtain⟨xs,rfl,h3⟩:=hasW_list h1;obtain⟨ns,rfl⟩:=items_int h3
 have dj:ns.length<=n:=by
  unfold OpenLaw.pre at hc
  have h4:(WTm.not (.lt (.lit (.int (n:Int))) (.len (.arg 0)))).holds [] {args:=[.list (ns.map .int)]}=true:=by
   have h4:=(holds_andW hc).1;rw[hn]at h4;exact h4
  have h5:=condW_of h4 (w_not (w_lt w_lit (w_len_list (w_arg rfl))));rw[List.length_map]at h5;refine Nat.le_of_not_lt λq=>?_
  have q':(n:Int)<((ns.length:Nat):Int):=by omega
  first
   |(rw[decide_eq_true q']at h5;exact absurd h5 %[|2])
   |(simp at h5;omega)
 cases fM with
 |cons w1 w2=>
  cases w2
  cases w1 with
  |list ho hall=>exact#[_,_,ns,rfl,rfl,ho,GE ns _ hall,dj]
theorem Rn(l:OpenLaw)(args:List WData):l.row.toRowW.claim.post args (.bool true) args=true:=
 postW_of (r:=l.row.toRowW) (X:=(true == true))
  (show WShape.has [] (.bool true) .bool=true by first|rfl|decide|simp[WShape.has,WShape.arms,WShape.armsAll])
  (show (WTm.eq .res (.lit (.bool true))).value [] {args:=args,res:=some (.bool true),after:=args}=some (.bool (true == true)) from w_eq_bool (w_res rfl) w_lit) rfl
theorem attach_call{l:OpenLaw}{n:Nat}{q:Program}{fY:List Str}{XP:(Str->%[|14])->Heap->Prop}{YP:World->Heap->Prop}{d:DefRec}(hn:l.most=some n)(jD:d.params.defaults=[])(call:∀(w:World) (s₀ s₁:Shared) (mg mb:Str->%[|14]) (fa:Addr) (o:Obj) (pm cd fA:Value) (a:Addr) (vs:%[|6]) (ns:List Int),
   Ground q fY [] XP w s₀ mg mb s₁.heap->YP w s₁.heap->
   s₁.heap.get? fa=some o->o.data=.func (docDef d.name d.params d.body d.scope pm cd fA)->s₁.heap.CodeRec cd d.name->mg d.name=some (.ref fa)->
   s₁.heap.get? a=some {cls:=.type "list",data:=.seq vs.toArray}->IntsAre vs ns->ns.length<=n->s₁.gens = #v[]->
   codeAny (model l.prog w) callerA (.call (.ref fa) #[[.ref a],[]]) %[|106] s₁):
  WalkO q fY XP YP l.row.toRowW d [] (λf vs=>PySem.call f vs):=by
 intro w s₀ s₁ mg mb G Y fa o pm cd fA dV kV ho hd gq hD hmg hg args jB as jC hlay hrd fM hlo;obtain rfl:dV=.none:=Dflts.none hD jD;obtain rfl:kV=.none:=Dflts.noKw hD;obtain⟨a,vs,ns,rfl,rfl,hobj,iY,dj⟩:=QM hn jC fM;refine enter_call (codeAny_mono (call w s₀ s₁ mg mb fa o pm cd fA a vs ns G Y ho (fd_plain hd) gq hmg hobj iY dj hg) λr s' hq=>?_);obtain⟨rfl,h2,h3,h4⟩:=hq;exact#[.inl #[.bool true,.bool true,[],rfl,λ_=>rfl,.bool true,Rn l _,λ_=>#[List.Pairwise.nil,λ_ hm=>(nomatch hm)]],h2,h3,h4]
section
variable {prog:Program}{w:World}{A:Around}{E:Value->Shared->Prop}{s:Shared}{K:Frag}
end
end Att
namespace L2
open PySem PySem.Spec PyProof.Rows
theorem FO:∀{vs:%[|6]}{ns:List Int},IntsAre vs ns->Vals %[|28] vs
 |_,_,.nil=>.nil
 |_,_,.cons n t h=>.cons #[t,rfl] (FO h)
def XW(H:Hp):Prop:=∀b,H b=none\/Cd λo xs=>H b=some (.frz o %[|12])
theorem RO{K:PySem.W.Frag}(KX:K.In s₁.heap)(hns:s₁.heap.Ns mainGlobals mg)(hb:s₁.heap.Ns builtinsNs mb)(hbb:∀x:Str,x≠"__name__"->mb x=bootBuiltins x)(hlim:s₁.heap.NoLimit)(hg:s₁.gens = #v[])(ha:s₁.heap.get? a=some {cls:=.type "list",data:=.seq vs.toArray})(hi:IntsAre vs ns)(hl:ns.length<=sizeLine)(hr:A0M k callerA)(F:∀base:Heap,K.In base->base.Ns mainGlobals mg->EK P w K mg base CX k fa fd [x] sp)(hbind:∀(s:Shared) (u:Value),BindsTo s fd #[[u],[]] [(x,u)])(fB:∀H:Hp,XW H->SqL K H a %[|28]->sp [.ref a] H (λv _=>v=.bl true) λ_ _ _=>False)(hCX:∀H e s',CX [] H s₁ (λ_ _ _=>False) e s'->False):
  codeAny (model P w) callerA (.call (.ref fa) #[[.ref a],[]]) %[|106] s₁:=by
 have rv:=FO hi;have lenV:=hi.length
 have core:∀H:Hp,XW H->SqL K H a %[|28]->HOk P w H s₁.heap->(∀b,H b≠none->b=a)->(H a≠none->K.lookup a=none)->
   codeAny (model P w) callerA (.call (.ref fa) #[[.ref a],[]]) %[|106] s₁:=by
  intro H hO hS hok hA hK;have Er:∀{b:Addr}{o:Obj},s₁.heap.get? b=some o->H b=none->(JU s₁.heap H).get? b=some o:=λe n=>R5 e n
  have noA:∀{b:Addr}{o:Obj}{es:Array DictEntry}{ep:Nat},s₁.heap.get? b=some o->o.data=.dict es ep->H b=none:=λ{b o es ep} e d=>by
   cases q:H b with
   |none=>rfl
   |some u=>
    have e':b=a:=hA b (by rw[q];simp);subst e';rw[ha]at e;cases e;have d':Data.seq vs.toArray _=Data.dict es ep:=d;cases d'
  have nsK:∀{b:Addr}{m:Str->%[|14]},s₁.heap.Ns b m->(JU s₁.heap H).Ns b m:=λ{b m} ⟨o,es,ep,e,d,r⟩=>#[o,es,ep,Er e (noA e d),d,r]
  have hKb:K.In (JU s₁.heap H):=λb o e=>Er (KX b o e) (by
   cases q:H b with
   |none=>rfl
   |some u=>
    have e':b=a:=hA b (by rw[q];simp)
    subst e'
    rw[hK (by rw[q];simp)]at e;cases e)
  have hM:Mod K mg (JU s₁.heap H):=#[hKb,nsK hns,#[mb,nsK hb,hbb],let ⟨mc,h1,h2⟩:=hlim;#[mc,nsK h1,h2]];have e0:Env0 P w K mg (JU s₁.heap H) callerA [] s₁ H:=#[rfl,hM,λb o e=>Wh e,Nat.le_of_eq (Rg _ _),trivial,λb hb=>absurd (show b∈([]:%[|3]) from hb) %[|1],hok,.of_eq hg];refine codeAny_mono ((F _ hKb (nsK hns)).run callerA [] s₁ H #[[.ref a],[]] [.ref a] [.ref a] _ _ hr e0 (hbind s₁ (.ref a)) (.cons rfl .nil) (fB H hO hS)) λr s' h=>?_
  cases r with
  |error e=>exact (hCX H e s' h).elim
  |ok fl=>
   cases fl with
   |next=>exact False.elim h
   |brk=>exact False.elim h
   |cont=>exact False.elim h
   |ret u=>
    obtain⟨v,H',os,bare,un,hok',r',q⟩:=h;have q':v=.bl true:=q;subst q';obtain rfl:u=Value.bool true:=r';refine#[rfl,OldK.of_keep λb o e=>?_,os,bare]
    cases q:H b with
    |none=>exact un.keep b o e q (by intro z;exact absurd (show b∈([]:%[|3]) from z) %[|1]) %[|1]
    |some u=>
     rcases hO b with z|⟨ob,xs,z⟩
     ·rw[q]at z;cases z
     ·have z2:=un.frzs b ob _ z;obtain⟨e1,_⟩:=hok b _ z;obtain⟨e2,_⟩:=hok' b _ z2;rw[e]at e1;cases e1;exact e2
 cases hk:K.lookup a with
 |some o=>
  have e:=KX a o hk;rw[ha]at e;cases e;refine core (λ_=>none) (λ_=>.inl rfl) (.inr #[_,vs.toArray,_,hk,rfl,rfl,rfl,by rw[zAK,lenV];exact hl,by simpa using rv]) (λb u z=>by have z':(none:Option HO)=some u:=z;cases z') (λb z=>absurd rfl z) λz=>absurd rfl z
 |none=>
  refine core (λb=>if b=a then some (.frz {cls:=.type "list",data:=.seq vs.toArray} (.lst %[|28]))else none) (λb=>?_) (.inl (.inr #[{cls:=.type "list",data:=.seq vs.toArray},if_pos rfl])) (λb u z=>?_) (λb z=>?_) λ_=>hk
  ·by_cases hb:b=a
   ·exact .inr #[_,_,if_pos hb]
   ·exact .inl (if_neg hb)
  ·by_cases hb:b=a
   ·have z':=(if_pos hb).symm.trans z;cases z';subst hb;exact#[ha,by rw[List.length_map];exact hl,vs,_,rv,ha]
   ·have z':=(if_neg hb).symm.trans z;cases z'
  ·by_cases hb:b=a
   ·exact hb
   ·exact absurd (if_neg hb) z
theorem walk_of{l:PySem.W.OpenLaw}{n k:Nat}{q:Program}{fY:List Str}{XP:(Str->%[|14])->Heap->Prop}{YP:World->Heap->Prop}{d:DefRec}{K:Params->PySem.W.Frag}{CX:World->IK}{sp:World->Sp}{x:Str}(hn:l.most=some n)(iw:n<=sizeLine)(jD:d.params.defaults=[])(hr:A0M k callerA)(hY:∀(w:World) (h:Heap),YP w h->(K w.params).In h)(F:∀(w:World) (mg:Str->%[|14]) (fa:Addr) (h:Heap),(K w.params).In h->h.Ns mainGlobals mg->mg d.name=some (.ref fa)->
   ∃fd:FuncData,(∀(s:Shared) (u:Value),BindsTo s fd #[[u],[]] [(x,u)])/\
    ∀base:Heap,(K w.params).In base->base.Ns mainGlobals mg->EK l.prog w (K w.params) mg base (CX w) k fa fd [x] (sp w))(fB:∀(w:World) (H:Hp) (a:Addr) (ns:List Int),ns.length<=n->XW H->SqL (K w.params) H a %[|28]->sp w [.ref a] H (λv _=>v=.bl true) λ_ _ _=>False)(hCX:∀(w:World) (H:Hp) (s:Shared) (e:Value) (s':Shared),CX w [] H s (λ_ _ _=>False) e s'->False):
  PySem.W.WalkO q fY XP YP l.row.toRowW d [] (λf vs=>PySem.call f vs):=by
 refine Att.attach_call hn jD λw s₀ s₁ mg mb fa o pm cd fA a vs ns G Y ho hd gq hmg hobj iY dj hg=>?_
 have KX:=hY w _ Y;obtain⟨fd,hb,hF⟩:=F w mg fa _ KX G.T.g hmg;exact RO KX G.T.g G.T.b G.T.builtins G.T.nolimit hg hobj iY (zAC dj iw) hr hF hb (λH hO hS=>fB w H a ns dj hO hS) λH e s'=>hCX w H s₁ e s'
def AL(s:Stmt)(j:Nat):Stmt:=match s with
 |.ClassDef _ _ _ body _ _ _ _ _ _ _=>body.getD j (.Pass #[0,0,0,0])
 |_=>.Pass #[0,0,0,0]
def DA(s:Stmt):Arguments:=match s with
 |.FunctionDef _ a _ _ _ _ _ _ _ _=>a
 |_=>{posonlyargs:=[],args:=[],vararg:=none,kwonlyargs:=[],kw_defaults:=[],kwarg:=none,defaults:=[]}
def CB(s:Stmt):List Stmt:=match s with
 |.FunctionDef _ _ b _ _ _ _ _ _ _=>b
 |_=>[]
def A9(s:Stmt):Scope:=match s with
 |.FunctionDef _ _ _ _ _ _ sc _ _ _=>sc
 |_=>{kind:=.function,names:=[],isGenerator:=false,isCoroutine:=false}
abbrev BC:IK:=λ_ _ _ _ _ _=>False
abbrev E0:XK:=λ_ _ _=>False
theorem Al:Cy BC X E0:=λ_ _ _ _ _ _ _ h=>h.elim
structure Fun(K:PySem.W.Frag)(x dz:Str)(st:Stmt)(f:Addr)(fd:FuncData):Prop where
 ex:cX λ(oc:Value)(od:Option Addr)(kV fA pm:Value)(an:Option Addr)(dm ct:Value)(jA:Array (%[|14]))=>BV (fd=PySem.W.fnOf x dz (DA st) (CB st) (A9 st) .none kV fA pm an dm ct) (K.lookup f=some #[oc,od,.func fd,jA]) (PySem.W.codeIn K dm dz=true)
 kp:PySem.W.keepIn K (.ref f)=true
section
variable {P:Program}{w:World}{K:PySem.W.Frag}{mg:Str->%[|14]}{base:Heap}
theorem Fun.ok{st:Stmt}(F:Fun K x dz st f fd)(S:Et N ps (A9 st))(gr:∀(dm:Value) (A:Around) (outer:List Env) (s:Shared) (H:Hp) (vs:List V) (Q:VK) (E:XK),A0M k (A.deeper (envOfC dz (A9 st) s.heap.objs.size f dm))->sp vs H Q E->
   ∃t,PSs (Io BC P w K mg base N dz (A9 st) f dm A outer s H E).nox (CB st) t/\t {nx:=λ_ H'=>Q .non H',rt:=Q} (EQ N vs) H)(len:∀vs H Q E,sp vs H Q E->vs.length=ps.length:=by rintro _ _ _ _ ⟨⟩;subst_vars;rfl):EK P w K mg base BC (k+1) f fd ps sp:=by
 obtain⟨oc,od,kV,fA,pm,an,dm,ct,jA,rfl,lk,gq⟩:=F.ex;refine XQ lk gq S len λA outer s H vs Q E hr fB=>?_
 obtain⟨t,h,q⟩:=gr dm A outer s H vs Q E hr fB;exact#[t,h.nox,q]
theorem Fun.binds{st:Stmt}(F:Fun K x dz st f fd)(h:∀(kV fA pm:Value) (an:Option Addr) (dm ct:Value) (us:%[|6]),us.length=ps.length->bindArgs (PySem.W.fnOf x dz (DA st) (CB st) (A9 st) .none kV fA pm an dm ct) #[us,[]]=pure (ps.zip us)):Binds K fd ps []:=by
 obtain⟨oc,od,kV,fA,pm,an,dm,ct,jA,rfl,lk,gq⟩:=F.ex;exact .all (h kV fA pm an dm ct)
theorem Sd{st:Stmt}{kV fA pm dm ct:Value}(l:K.lookup f=some #[oc,od,.func (PySem.W.fnOf x dz (DA st) (CB st) (A9 st) .none kV fA pm an dm ct),jA])(c:PySem.W.codeIn K dm dz=true)(k:PySem.W.keepIn K (.ref f)=true):Fun K x dz st f (PySem.W.fnOf x dz (DA st) (CB st) (A9 st) .none kV fA pm an dm ct):=#[#[oc,od,kV,fA,pm,an,dm,ct,jA,rfl,l,c],k]
end
theorem An(h:n<=1000):n<sizeLine:=zCS h %[|2]
section
variable {X:Cx}
theorem pv(i:Nat)(hN:X.N[i]? = some x:=by rfl)(hv:bX X.env.scope x:=by first|exact Or.inl rfl|exact Or.inr (Or.inl rfl)|exact Or.inr (Or.inr rfl))(hd:%[|48]=false:=by decide)(gq:(x == ("__classdict__":Str))=false:=by decide):PE X (.Name x pos) (WA i):=Zn hN hv hd gq
end
theorem Aw(h:B):If false A B:=.ff rfl h
theorem AD(h:A):If true A B:=.tt rfl h
theorem Cb(h1:b=true->A)(h2:¬b=true->B):If b A B:=by
 cases b with
 |true=>exact .tt rfl (h1 rfl)
 |false=>exact .ff rfl (h2 zAG)
theorem Tj[Decidable c](hc:c)(h:B):If (!decide c) A B:=.ff (by rw[decide_eq_true hc];rfl) h
def A0B(H H':Hp):Prop:=∀b o,H b=some o->H' b=some o
theorem A0B.refl(H:Hp):A0B H H:=λ_ _ h=>h
theorem A0B.trans(a:A0B H H1)(b:A0B H1 H2):A0B H H2:=λc o h=>b c o (a c o h)
theorem A0B.free(e:A0B H H')(h:H' l=Option.none):H l=Option.none:=by
 cases q:H l with
 |none=>rfl
 |some o=>
  rw[e l o q]at h;cases h
theorem A0B.seq{K:PySem.W.Frag}(e:A0B H H')(h:SqL K H a xs):SqL K H' a xs:=by
 rcases h with (h|⟨o,h⟩)|h
 ·exact .inl (.inl (e _ _ h))
 ·exact .inl (.inr #[o,e _ _ h])
 ·exact .inr h
section
variable {X:Cx}
inductive EN(K:PySem.W.Frag)(xs:List V)(H:Hp)(Q:VK):Prop|mk(x T t b)(_:xs=[x,.ty T])(_:FZ K H x t)(_:PySem.W.kitOne K t (.type T)=some b)(_:Q (.bl b) H)
theorem L9:Cf X (.builtin "isinstance") (EN X.K):=by
 exists 4;obtain⟨x,T,t,b,rfl,ty,e,q⟩:=h;obtain⟨u,w',rfl,rx,ry⟩:=Xi r;cases ry;exact Qz I rx ty e λtk=>#[.bl b,H,I.tok _,rfl,q]
theorem Ud(K:PySem.W.Frag)(T:String):PySem.W.kitOne K (.type T) (.type T)=some true:=by
 unfold PySem.W.kitOne;rw[if_pos (beq_self_eq_true _)]
theorem Ec(K:PySem.W.Frag):PySem.W.kitOne K (.type "tuple") (.type "str")=some false:=by
 with_unfolding_all rfl
inductive aP(K:PySem.W.Frag)(x:V)(y:V)(H:Hp)(Q:VK):Prop|mk(a b xs)(_:x=.ref a)(_:y=.ref b)(_:SqL K H a xs)(_:SqL K H b [])(_:Q (.bl (!xs.isEmpty)) H)
theorem Nz(hu:X.A.units<cLine):Dy X (compareOp .NotEq) (aP X.K):=by
 exists 2;obtain⟨a,b,xs,rfl,rfl,ha,hb,q⟩:=h;cases rx;cases ry;obtain⟨its,r,pl,hz⟩:=I.list ha;obtain⟨dD,r2,pl2,hz2⟩:=I.list hb;cases r2
 cases r with
 |nil=>exact SeqAt.RcNeAt.lists (e:=λ_=>true) pl.isList pl2.isList rfl hu (λj h1=>absurd h1 (zCJ _)) _ _ _ _ #[.bl false,H,I,rfl,q]
 |cons r1 r2=>exact SeqAt.RcNeAt.lists_lengths pl.isList pl2.isList %[|1] hu _ _ _ _ #[.bl true,H,I,rfl,q]
inductive Z7(K:PySem.W.Frag)(x:V)(y:V)(H:Hp)(Q:VK):Prop|mk(a b xs)(_:x=.ref a)(_:y=.ref b)(_:SqL K H a xs)(_:SqL K H b [])(_:Q (.bl xs.isEmpty) H)
theorem HN(hu:X.A.units<cLine):Dy X (compareOp .Eq) (Z7 X.K):=by
 exists 2;obtain⟨a,b,xs,rfl,rfl,ha,hb,q⟩:=h;cases rx;cases ry;obtain⟨its,r,pl,hz⟩:=I.list ha;obtain⟨dD,r2,pl2,hz2⟩:=I.list hb;cases r2
 cases r with
 |nil=>exact zDO (e:=λ_=>true) pl.isList pl2.isList rfl hu (λj h1=>absurd h1 (zCJ _)) _ _ _ _ #[.bl true,H,I,rfl,q]
 |cons r1 r2=>exact SeqAt.RcAt.lists_lengths pl.isList pl2.isList %[|1] hu _ _ _ _ #[.bl false,H,I,rfl,q]
inductive UG(K:PySem.W.Frag)(x:V)(vs:List V)(H:Hp)(Q:VK):Prop|mk(l xs y j z)(_:x=.ref l)(_:vs=[y])(_:SqL K H l xs)(_:C9 y=true)(_:xs.all C9=true)(_:xs[j]? = some z)(_:MM z y=true)(_:(∀m c,m<j->xs[m]? = some c->MM c y=false))(_:Q (.int (j:Nat)) H)
theorem RH:ZP X "list.index" (UG X.K):=by
 exists 15;obtain⟨l,xs,y,j,z,rfl,rfl,hq,fy,fxs,hz,he,kh,q⟩:=h;cases rx;obtain⟨u,rfl,ru⟩:=rv.one;obtain⟨its,r,pl,hs⟩:=I.list hq;obtain⟨o,n,ho,hc,hd,hdata⟩:=pl;obtain⟨cls,dd,data,sl⟩:=o;simp only at hc hd hdata;subst hc hd hdata;have hl:=r.length;have hj:j<xs.length:=%[hz|117].1
 have at':∀m c,xs[m]? = some c->∃(hm:m<its.toArray.size),L7 y its.toArray[m]=MM c y:=λm c hm=>by
  obtain⟨w',hw,rw'⟩:=r.get hm;have fC:m<its.length:=%[hw|117].1;refine#[by simpa using fC,?_];have fc:C9 c=true:=(List.all_eq_true.mp fxs) c (zAJ hm);have e1:its.toArray[m]'(by simpa using fC)=w':=by simpa using %[hw|117].2
  rw[e1];exact MZ rw' fc
 obtain⟨hj',ej⟩:=at' j z hz;have fX:sizeLine=16777216:=sizeLine_eq;refine call_meets F.slot_list_index #[_,ho,rfl] F.entry_list_index (F.args_list_index_2 _ _) (SeqAt.list_indexAt l its.toArray n none sl u (L7 y) j hj' %[|0] (ej.trans he) (λm hm dQ=>?_)) #[ho,?_,?_]
 ·have dU:m<xs.length:=by simp at hm;omega
  obtain⟨_,em⟩:=at' m xs[m] (List.getElem?_eq_getElem dU);exact em.trans (kh m _ dQ (List.getElem?_eq_getElem dU))
 ·exactλw' hw=>Dx ru fy r fxs w' (by simpa using hw)
 ·exact#[.int j,H,I.tok _,#[_,rfl],q]
theorem HD:∀{ys:List Str}{us:%[|6]},Vals (ys.map V.str) us->StrsAre us ys
 |[],_,r=>by cases r;exact .nil
 |y::ys,_,r=>by
  cases r with
  |cons r1 r2=>
   obtain⟨t,rfl⟩:=r1;exact .cons y t (HD r2)
inductive XC(K:PySem.W.Frag)(x:V)(vs:List V)(H:Hp)(Q:VK):Prop|mk(sep l ys)(_:x=.str sep)(_:vs=[.ref l])(_:SqL K H l (ys.map V.str))(_:(ys.map (·.length)).sum+ys.length*sep.length<=16777216)(_:Q (.str (Txt.join sep ys)) H)
theorem FE:ZP X "str.join" (XC X.K):=by
 exists 15;obtain⟨sep,l,ys,rfl,rfl,hq,hz,q⟩:=h;exists 3;obtain⟨u,rfl,ru⟩:=rv.one;cases ru;obtain⟨its,r,pl,hs⟩:=I.list hq;exact join_list pl.isList (by simpa using HD r) hz λt' k=>#[.str _,H,I.tok _,#[_,rfl],q]
def YZ(P:Program)(w:World)(K:PySem.W.Frag)(d:Addr)(f:Str->Option V):Prop:=
 (d == sysModules)=false/\Cd λ(o:Obj)(vs:List (Str×Value))=>BV (K.lookup d=some o) (o.IsDictOf (PySem.strKind P w) vs) (∀k,A1N (f k) (valueAt vs k))
inductive ZB(P:Program)(w:World)(K:PySem.W.Frag)(x:V)(y:V)(H:Hp)(Q:VK):Prop|mk(d k v f)(_:x=.ref d)(_:y=.str k)(_:YZ P w K d f)(_:f k=some v)(_:Q v H)
theorem YL:XD X (ZB X.prog X.w X.K):=by
 exists 17;obtain⟨d,k,z,f,rfl,rfl,⟨hm,o,vs,hk,hd,hv⟩,e,q⟩:=h;cases rx;obtain⟨t,rfl⟩:=ry;have hD:s.heap.DictOf (PySem.strKind X.prog X.w) d vs:=Heap.dictOf_iff.mpr #[o,I.kIn d o hk,hd];have hr:=hv k;rw[e]at hr
 cases ev:valueAt vs k with
 |none=>rw[ev]at hr;exact False.elim hr
 |some u'=>
  rw[ev]at hr;exact tail_any hD.typeIs slot_dict_getitem.lookup (wpAny_getItem_of (strKind_is _ _ k t) hD.mapOf ev #[z,H,I.tok _,hr,q]) hs
end
end L2
namespace HT2
open PySem L2
def TS(H H':Hp):Prop:=∀p xs,H p=some (.tup xs)->H' p=some (.tup xs)
theorem TS.trans(a:TS H H1)(b:TS H1 H2):TS H H2:=λp xs e=>b p xs (a p xs e)
theorem TS.same(s:A0B H H'):TS H H':=λp xs e=>s p _ e
theorem TS.lst{H:Hp}{l:Addr}{xs:List V}{o:HO}(h:H l=some %[|12]):TS H (upd H l o):=λp ys e=>by
 rw[Af (AV e h %[|11])];exact e
theorem TS.new(h:H l=none):TS H (upd H l o):=λp ys e=>by
 rw[Af (Ai e h)];exact e
theorem Ab(h:H p=none)(o:HO):A0B H (upd H p o):=λb u q=>by rw[Af (Ai q h)];exact q
theorem Ao(s:A0B H0 H)(h:H0 p=none)(o:HO):A0B H0 (upd H p o):=λb u q=>by rw[Af (Ai q h)];exact s b u q
inductive Tr where
 |lt (k:Nat)
 |nt (t:Tr)
 |bn (j:Nat) (a b:Tr)
 deriving DecidableEq
def jn:Nat->Str
 |0=>"and"
 |1=>"or"
 |2=>"if"
 |_=>"same"
def Tr.At(H:Hp):Tr->V->Prop
 |.lt k,v=>∃p,v=.ref p/\H p=some (.tup [.str "let",.int k])
 |.nt t,v=>Cd λp u=>BV (v=.ref p) (H p=some (.tup [.str "not",u])) (t.At H u)
 |.bn j a b,v=>Fb λp x y=>Im (v=.ref p) (H p=some (.tup [.str (jn j),x,y])) (a.At H x) (b.At H y)
def Tr.size:Tr->Nat
 |.lt _=>1
 |.nt t=>t.size+1
 |.bn _ a b=>a.size+b.size+1
def Tr.ok(m:Nat):Tr->Prop
 |.lt k=>k<m
 |.nt t=>t.ok m
 |.bn j a b=>j<4/\a.ok m/\b.ok m
theorem Tr.size_pos:∀t:Tr,0<t.size
 |.lt _=>Nat.one_pos
 |.nt _=>zBH _
 |.bn _ _ _=>zBH _
theorem Tr.At.keep{H H':Hp}(s:TS H H'):∀{t:Tr}{v:V},t.At H v->t.At H' v
 |.lt k,v,h=>by
  obtain⟨p,e,h⟩:=h;exact#[p,e,s _ _ h]
 |.nt t,v,h=>by
  obtain⟨p,u,e,h,q⟩:=h;exact#[p,u,e,s _ _ h,Tr.At.keep s q]
 |.bn j a b,v,h=>by
  obtain⟨p,x,y,e,h,q,r⟩:=h;exact#[p,x,y,e,s _ _ h,Tr.At.keep s q,Tr.At.keep s r]
theorem Tr.ok.mono{m n:Nat}(h:m<=n):∀{t:Tr},t.ok m->t.ok n
 |.lt k,q=>zAN q h
 |.nt t,q=>Tr.ok.mono (t:=t) h q
 |.bn j a b,q=>#[q.1,Tr.ok.mono (t:=a) h q.2.1,Tr.ok.mono (t:=b) h q.2.2]
abbrev A0J(H:Hp):List V->List Tr->Prop:=Paired λ(v:V)(t:Tr)=>t.At H v
theorem A0J.keep{H H':Hp}(s:TS H H'):∀{xs:List V}{ts:List Tr},A0J H xs ts->A0J H' xs ts
 |_,_,.nil=>.nil
 |_,_,.cons r q=>.cons (Tr.At.keep s r) (A0J.keep s q)
theorem A0J.len{H:Hp}:∀{xs:List V}{ts:List Tr},A0J H xs ts->xs.length=ts.length
 |_,_,.nil=>rfl
 |_,_,.cons _ q=>congrArg (· + 1) (A0J.len q)
theorem A0J.snoc{H:Hp}{y:V}{t:Tr}(h:t.At H y):∀{xs:List V}{ts:List Tr},A0J H xs ts->A0J H (xs++[y]) (ts++[t])
 |_,_,.nil=>.cons h .nil
 |_,_,.cons r q=>.cons r (A0J.snoc h q)
theorem A0J.last{H:Hp}:∀{xs:List V}{ts:List Tr},A0J H xs ts->0<ts.length->TN λgR y fQ t=>Im (xs=gR++[y]) (ts=fQ++[t]) (A0J H gR fQ) (Tr.At H t y)
 |_,_,.nil,h=>absurd h (zBN _)
 |_,_,.cons (a:=v) (b:=t) r .nil,_=>#[[],v,[],t,rfl,rfl,.nil,r]
 |_,_,.cons (a:=v) (b:=t) r (.cons r' q'),_=>by
  obtain⟨gR,y,fQ,u,e1,e2,q,a⟩:=A0J.last (Paired.cons r' q') (zBH _);exact#[v::gR,y,t::fQ,u,by rw[e1];rfl,by rw[e2];rfl,.cons r q,a]
def sz(ts:List Tr):Nat:=(ts.map Tr.size).sum
theorem Cq(ts:List Tr)(t:Tr):sz (ts++[t])=sz ts+t.size:=by
 unfold sz;rw[List.map_append,zCR];simp
theorem CD(xs:List V)(y:V):(xs++[y])[(xs++[y]).length-1]? = some y:=by
 simp
theorem Dv(h:n<=1000):n<=sizeLine:=zA7 (An h)
theorem C4:2<=sizeLine:=by decide
theorem ML:3<=sizeLine:=by decide
theorem Z3:4<=sizeLine:=by decide
theorem SK:5<=sizeLine:=by decide
theorem OP:1<=sizeLine:=by decide
theorem GD:0<=sizeLine:=by decide
def A1A:List V:=[.str "and",.str "or",.str "if",.str "same"]
theorem LI(h0:0<=i)(h1:i<4):DR A1A i=some (.str (jn i.toNat)):=by
 obtain⟨n,rfl⟩:=zBT h0;have hn:n<4:=by omega
 rw[zBG];refine Ac ?_
 match n,hn with
 |0,_=>rfl
 |1,_=>rfl
 |2,_=>rfl
 |3,_=>rfl
end HT2
namespace L2
open PySem PySem.Spec PyProof.Rows
abbrev EO:Value->Shared->Prop:=λ_ _=>False
theorem Oa{α:Type}{t:Sem α}{Q:α->Shared->Prop}(h:wpAny M A t Q EO s):wpAny M A t Q E s:=wpAny_mono h (λ_ _ q=>q) λ_ _ z=>False.elim z
def Ek(J:It)(g:TG)(tb:TS)(D:BJ)(σ:St)(H:Hp):Prop:=∃W:Nat->Nat->St->Hp->Prop,(∃m,W 0 m σ H)/\∀i m σ H,W i m σ H->
 (J.stop i H/\D.nx σ H)\/(J.go i H/\∃N:St->Hp->Prop,%[|97]/\∀x H',J.yld i H x H'->g x σ H' λσ2 H2=>tb {D with nx:=N,ct:=N,bk:=D.nx} σ2 H2)
abbrev TR:=(Shared->Prop)->Shared->Prop
structure PB(X:Cx)(WB:TR)(tb:TS):Prop where
 mono:∀(Qa Qb:Shared->Prop)(s:Shared),(∀s,Qa s->Qb s)->WB Qa s->WB Qb s
 run:∀(pins:%[|19])(s:Shared)(σ:St)(H:Hp)(D:BJ),%[|4]->tb D σ H->WB (λs'=>Cd λσ' H'=>Inv X pins σ' H' s'/\D.nx σ' H') s
def HT(X:Cx)(e:Expr)(d:Nat)(it acc:Value)(tg:Expr)(WB:TR):Prop:=∀s(Qd Qa:Shared->Prop),
 wpAny %[|18] X.A (pyNext it) (λr s1=>match r with|none=>Qd s1|some v=>%[|20] (letOwnedTupleGo tg it v) (λ_ s2=>%[|20] (assign tg X.env v) (λ_ s3=>WB Qa s3) EO s2) EO s1) EO s->
 wpAny %[|18] X.A (compTurn e d it acc X.env) (λdI s'=>match dI with|.done f=>f=.next/\Qd s'|.again c'=>c'=.compLoop e d it acc X.env/\Qa s') EO s
section
variable {X:Cx}{e tg:Expr}{d:Nat}{acc:Value}{it:Addr}{WB:TR}{tb:TS}{g:TG}{J:It}{fp:%[|3]}{tn:Nat->Heap->Prop}{D:BJ}{pins:%[|19]}{σ:St}{H:Hp}{s:Shared}
theorem CV(dW:X.xe=EO)(hc:X.calm=true)(ht:HT X e d (.ref it) acc tg WB)(eP:(Code.compLoop e d (.ref it) acc X.env).isFrame=false)(hun:X.A.under (.compLoop e d (.ref it) acc X.env)=X.A)(hqu:(Code.compLoop e d (.ref it) acc X.env).quiet=true)(T:L0 X.prog X.w X.K tg J fp it tn)(hg:PG X tg g)(hb:PB X WB tb)(I:%[|4])(st:tn 0 s.heap)(f2:∀b∈fp,CP X pins H b)(h:Ek J g tb D σ H):
  codeAny %[|18] X.A (.compLoop e d (.ref it) acc X.env) (λr s'=>r=.ok .next/\Cd λσ' H'=>Inv X pins σ' H' s'/\D.nx σ' H') s:=by
 obtain⟨W,⟨m0,w0⟩,iT⟩:=h;have gP:∀{H':Hp},(∀b∈fp,H' b=none)->∀b∈fp,CP X pins H' b:=λhn b hb=>#[hn b hb,(f2 b hb).2]
 refine codeAny_loop hqu (λn s'=>Fb λi σ' H'=>Im (Inv X pins σ' H' s') (tn i s'.heap) (∀b∈fp,H' b=none) (W i n σ' H')) (λn s3 hI=>?_) m0 #[0,σ,H,I,st,λb hb=>(f2 b hb).1,w0];obtain⟨i,σ3,H3,I3,iV,fr3,w3⟩:=hI
 have hden:%[|18].den (.compLoop e d (.ref it) acc X.env)=(compTurn e d (.ref it) acc X.env).onRaise (λx=>do noteFrame x X.env;theTreesLotGoes x):=by
  show (if (Code.compLoop e d (.ref it) acc X.env).isFrame=true then _ else _)=_;rw[eP];rfl
 rw[hun,hden];refine wpAny_noted (Oa ?_);rcases iT i n σ3 H3 w3 with⟨stop,qn⟩|⟨go,N,hN,step⟩
 ·refine wpAny_mono (ht s3 (λs'=>Cd λσ' H'=>Inv X pins σ' H' s'/\D.nx σ' H') %[|36] (AU (T.done X rfl rfl rfl hc i pins s3 σ3 H3 EO I3 (gP fr3) iV stop) λr s4 ⟨hr,I4⟩=>?_)) (λdI s' q=>?_) λ_ _ z=>z
  ·subst hr;exact#[σ3,H3,I4,qn]
  ·cases dI with
   |done f=>
    obtain⟨rfl,q⟩:=q;exact#[rfl,q]
   |again c'=>exact False.elim q.2
 ·refine wpAny_mono (ht s3 %[|36] (λs'=>∃m,m<n/\Fb λi σ' H'=>Im (Inv X pins σ' H' s') (tn i s'.heap) (∀b∈fp,H' b=none) (W i m σ' H')) (AU (T.item X rfl rfl rfl hc i pins s3 σ3 H3 EO I3 (gP fr3) iV go) λr s4 ⟨u,hr,h4⟩=>?_)) (λdI s' q=>?_) λ_ _ z=>z
  ·subst hr;refine AU h4 λ_ s5 ⟨x,H5,I5,r5,y5,st5,fr5⟩=>?_
   have I5':=I5.pinned (gP fr5) (T.obj _ _ st5);have hgx:=hg _ s5 σ3 H5 x u _ I5' r5 (step x H5 y5);rw[dW]at hgx;refine AU hgx λ_ s6 ⟨σ6,H6,I6,q6⟩=>?_
   have again:∀{s7:Shared},(Cd λσ7 H7=>Inv X (pins++Hd fp s5.heap) σ7 H7 s7/\N σ7 H7)->∃m,m<n/\Fb λi σ' H'=>Im (Inv X pins σ' H' s7) (tn i s7.heap) (∀b∈fp,H' b=none) (W i m σ' H'):=λ{s7} ⟨σ7,H7,I7,n7⟩=>by
    obtain⟨m',hm,w7⟩:=hN σ7 H7 n7;refine#[m',hm,i+1,σ7,H7,I7.unpinned,T.keep _ _ _ st5 λb hb o e=>(I7.pin (b,o) (zAE _ (zAE _ (DJ hb e)))).1,λb hb=>?_,w7];obtain⟨o,e,d⟩:=T.obj _ _ st5 b hb;exact (I7.pin (b,o) (zAE _ (zAE _ (DJ hb e)))).2.1
   exact hb.mono _ _ s6 (λs7 q7=>again q7) (hb.run _ s6 σ6 H6 _ I6 q6)
  ·cases dI with
   |done f=>exact False.elim q.2
   |again c'=>exact q
def GT(dw:%[|22])(env:Env):Sem Bool:=forIn dw true λc r=>if r=true then do let ok <-isTrue c env (eval c env);pure (ForInStep.yield ok)else pure (ForInStep.yield r)
def Qf(X:Cx)(dw:%[|22])(t:TT):Prop:=
 ∀pins s(σ:St)H(Q:Bool->Hp->Prop),%[|4]->t σ H Q->%[|20] (GT dw X.env) (TP X pins σ Q) X.xe s
def MB:TT:=λ_ H Q=>Q true H
theorem Bk:Qf X [] MB:=λpins s σ H Q I h=>wpAny_tests_nil #[H,I,h]
theorem CS(h:PT X c tc):Qf X [c] tc:=λpins s σ H Q I q=>wpAny_tests_one (h pins s σ H Q I q)
def ET(X:Cx)(dw:%[|22])(dy:Expr)(acc:Value):TR:=λQa s=>%[|20] (GT dw X.env) (λok s1=>if ok=true then wpAny %[|18] X.A (eval dy X.env) (λx s2=>%[|20] (call (.builtin "list.append") [acc,x]) (λ_ s3=>Qa s3) EO s2) EO s1 else Qa s1) EO s
inductive Tt(acc:Addr)(D:BJ)(σ:St)(x:V)(H1:Hp):Prop|mk(xs)(_:H1 acc=some %[|12])(_:xs.length<sizeLine)(_:D.nx σ (upd H1 acc (.lst (xs++[x]))))
def Dm(acc:Addr)(te:TE):TS:=λD σ H=>te σ H (Tt acc D σ)
def Du(tc:TT)(tb:TS):TS:=λD σ H=>tc σ H λb H1=>If b (tb D σ H1) (D.nx σ H1)
theorem GQ{dw:%[|22]}{dy:Expr}{ac:Addr}{tc:TT}{te:TE}(dW:X.xe=EO)(hi:Qf X dw tc)(he:PE X dy te):PB X (ET X dw dy (.ref ac)) (Du tc (Dm ac te)) where
 mono:=λQa Qb s hq h=>AU h λok s1 h1=>by
  cases ok with
  |false=>exact hq _ h1
  |true=>exact AU h1 λx s2 h2=>AU h2 λ_ s3 h3=>hq _ h3
 run:=λpins s σ H D I h=>by
  have h1:=hi pins s σ H _ I h;rw[dW]at h1;refine AU h1 λok s1 ⟨H1,I1,q1⟩=>?_
  cases ok with
  |false=>exact#[σ,H1,I1,q1.f]
  |true=>
   have gO:Dm ac te D σ H1:=q1.t;have h2:=he pins s1 σ H1 _ I1 gO;rw[dW]at h2;refine AU h2 λu s2 ⟨x,H2,I2,r2,xs,hl,hz,q2⟩=>?_
   have h3:=IW (X:=X) pins s2 σ H2 (.ref ac) [x] (.ref ac) [u] (λ_ H'=>D.nx σ H') I2 rfl (.cons r2 .nil) #[hl,hz,q2];rw[dW]at h3;exact AU h3 λ_ s3 ⟨_,H3,I3,_,q3⟩=>#[σ,H3,I3,q3]
theorem Nf:HT X %[|91] 0 eY acc tg (ET X dw dy acc):=by
 intro s Qd Qa h;rw[compTurn_list];exists 20
 cases r with
 |none=>exact wpAny_pure #[rfl,h₁]
 |some v=>
  exists 21
  cases ok with
  |false=>exact wpAny_pure #[rfl,h4]
  |true=>exact wpAny_bind (wpAny_bind (AU h4 λx s₄ h₄=>wpAny_bind (AU h₄ λ_ s₅ h₅=>wpAny_pure (wpAny_pure #[rfl,h₅]))))
theorem MH(dy jE eQ tg df:Expr)(f9 dw:%[|22])(scope:Scope)(pos:Pos)(it acc:Value)(env:Env):
  compTurn (.ListComp dy [#[jE,eQ,f9,0],#[tg,df,dw,0]] scope pos) 1 it acc env=(do
   standAt df.pos
   match <-pyNext it with
   |none=>pure (.done .next)
   |some v=>
    letOwnedTupleGo tg it v
    assign tg env v
    let mut ok:=true
    for c in dw do
     if ok then ok <-isTrue c env (eval c env)
    if ok then
     (do let _ <-call (.builtin "list.append") [acc,<-eval dy env])
    again (.compLoop (.ListComp dy [#[jE,eQ,f9,0],#[tg,df,dw,0]] scope pos) 1 it acc env)):=by rfl
theorem ae:HT X (.ListComp dy [#[jE,eQ,f9,0],#[tg,df,dw,0]] scope pos) 1 eY acc tg (ET X dw dy acc):=by
 intro s Qd Qa h;rw[MH];exists 20
 cases r with
 |none=>exact wpAny_pure #[rfl,h₁]
 |some v=>
  exists 21
  cases ok with
  |false=>exact wpAny_pure #[rfl,h4]
  |true=>exact wpAny_bind (wpAny_bind (AU h4 λx s₄ h₄=>wpAny_bind (AU h₄ λ_ s₅ h₅=>wpAny_pure (wpAny_pure #[rfl,h₅]))))
theorem Kr(dy tg df d5 di:Expr)(dw dA:%[|22])(scope:Scope)(pos:Pos)(it acc:Value)(env:Env):
  compTurn (.ListComp dy %[|45] scope pos) 0 it acc env=(do
   standAt df.pos
   match <-pyNext it with
   |none=>pure (.done .next)
   |some v=>
    letOwnedTupleGo tg it v
    assign tg env v
    let mut ok:=true
    for c in dw do
     if ok then ok <-isTrue c env (eval c env)
    if ok then
     let x <-eval di env
     standAt di.pos
     let x <-foldedSetIterable di env x
     let _ <-runOwn (.compStart (.ListComp dy %[|45] scope pos) 1 (<-holding [x] (pyIter x)) acc env) env
    again (.compLoop (.ListComp dy %[|45] scope pos) 0 it acc env)):=by rfl
def Iz(X:Cx)(dw:%[|22])(e di:Expr)(acc:Value):TR:=λQa s=>%[|20] (GT dw X.env) (λok s1=>if ok=true then
 wpAny %[|18] X.A (eval di X.env) (λx s2=>%[|20] (pyIter x) (λit s3=>codeAny %[|18] X.A (.compStart e 1 it acc X.env) (λr s4=>r=.ok .next/\Qa s4) s3) EO s2) EO s1 else Qa s1) EO s
theorem Ya(hs:∀x,foldedSetIterable di X.env x=pure x):
  HT X (.ListComp dy %[|45] scope pos) 0 eY acc tg (Iz X dw (.ListComp dy %[|45] scope pos) di acc):=by
 intro s Qd Qa h;rw[Kr];exists 20
 cases r with
 |none=>exact wpAny_pure #[rfl,h₁]
 |some v=>
  exists 21
  cases ok with
  |false=>exact wpAny_pure #[rfl,h4]
  |true=>
   refine wpAny_bind (AU h4 λx s₄ h₄=>wpAny_bind (wpAny_standAt (wpAny_bind (wpAny_of_eq (hs x) (wpAny_bind (wpAny_holding (AU h₄ λit s₅ h₅=>?_)))))));refine wpAny_bind (wpAny_runOwn (codeAny_mono h₅ λr s₆ h₆=>?_));obtain⟨rfl,h₆⟩:=h₆;exact wpAny_pure #[rfl,h₆]
theorem Cw(fR:((clausesOf e)[d]?).elim false (·.is_async != 0)=false)(eP:(Code.compStart e d eY acc X.env).isFrame=false)(hun:X.A.under (.compStart e d eY acc X.env)=X.A)(hqu:∀it',(Code.compLoop e d it' acc X.env).quiet=true)(hposR:True)(h0:codeAny %[|18] X.A (.compLoop e d eY acc X.env) R s)(h:%[|20] (pyIter eY) (λit' s'=>codeAny %[|18] X.A (.compLoop e d it' acc X.env) R s') EO s):
  codeAny %[|18] X.A (.compStart e d eY acc X.env) R s:=by
 refine codeAny_of_tree ?_
 have hden:%[|18].den (.compStart e d eY acc X.env)=(compStart e d eY acc X.env).onRaise (λx=>do noteFrame x X.env;standAt theWindowsPlace):=by
  show (if (Code.compStart e d eY acc X.env).isFrame=true then _ else _)=_;rw[eP];rfl
 rw[hun,hden];refine wpAny_notedAt (Oa ?_);unfold compStart;rw[fR];show wpAny _ _ (ask >>= _) _ _ s;refine wpAny_bind (wpAny_askSetting (wpAny_ite ?_));split
 ·first
   |exact wpAny_bind (wpAny_pure (wpAny_pure (And.intro (hqu _) h0)))
   |exact wpAny_pure (And.intro (hqu _) h0)
 ·refine wpAny_bind (wpAny_rule ?_)
  cases hg:(clausesOf e)[d]? with
  |none=>exact wpAny_bind (AU h λit' s' h'=>wpAny_pure (And.intro (hqu _) h'))
  |some g'=>exact wpAny_bind (wpAny_standAt (wpAny_bind (AU h λit' s' h'=>wpAny_pure (And.intro (hqu _) h'))))
theorem YN{dy df d5 di:Expr}{dw dA:%[|22]}{scope:Scope}{pos:Pos}{ac:Addr}{tc:TT}{gS:TI}{g1:TG}{tb1:TS}(dW:X.xe=EO)(hc:X.calm=true)(hi:Qf X dw tc)(hI:PI X d5 di gS)(fZ:PG X d5 g1)(eO:PB X (ET X dA dy (.ref ac)) tb1):
  PB X (Iz X dw (.ListComp dy %[|45] scope pos) di (.ref ac)) (Du tc (NP gS g1 tb1)) where
 mono:=λQa Qb s hq h=>AU h λok s1 h1=>by
  cases ok with
  |false=>exact hq _ h1
  |true=>exact AU h1 λx s2 h2=>AU h2 λit s3 h3=>codeAny_mono h3 λr s4 h4=>#[h4.1,hq _ h4.2]
 run:=λpins s σ H D I h=>by
  have h1:=hi pins s σ H _ I h;rw[dW]at h1;refine AU h1 λok s1 ⟨H1,I1,q1⟩=>?_
  cases ok with
  |false=>exact#[σ,H1,I1,q1.f]
  |true=>
   have gO:NP gS g1 tb1 D σ H1:=q1.t;have h2:=hI pins s1 σ H1 _ I1 gO;rw[dW]at h2;refine AU h2 λu s2 h3=>AU h3 λeY s3 h4=>?_
   obtain⟨it,fp,tn,J,H3,e,I3,T,iV,f3,hR⟩:=h4;subst e;have d7:=CV (e:=.ListComp dy %[|45] scope pos) (d:=1) (D:=D) dW hc ae rfl rfl rfl T fZ eO I3 iV f3 hR;exact Cw (X:=X) rfl rfl rfl (λ_=>rfl) True.intro d7 (T.self _ 0 s3 _ _ iV d7)
end
structure CC where
 s:Shared
 H:Hp
 fp:%[|3]
def Cx.cmp(X:Cx)(N:List Str)(scope:Scope)(cl:List (Str×Addr))(c:CC):Cx:=
 {X with N:=N,s₀:=c.s,H₀:=c.H,env:=compEnvC scope cl c.s.heap.objs.size X.env,outer:=X.stack,ex:=c.fp,fn:=λ_=>false,pn:=[]}
def sub(js:List (%[|34]))(σ:St):St:=js.map λo=>o.bind λj=>(σ[j]?).join
def Gd(X:Cx)(N:List Str)(scope:Scope)(js:List (%[|34])):Prop:=
 ∀(i:Nat)(x:Str)(j:Nat),N[i]? = some x->js[i]? = some (some j)->X.N[j]? = some x/\X.env.kindOf x=some .cell/\(relabel scope X.env).names.lookup x=some .cell
section
variable {X:Cx}{N:List Str}{scope:Scope}{cl:List (Str×Addr)}{js:List (%[|34])}{pins:%[|19]}{σ:St}{H:Hp}{s:Shared}{fp:%[|3]}
theorem Inv.cmp(I:%[|4])(hf:∀b∈fp,CP X pins H b)(gT:∀b∈fp,b<s.heap.objs.size)(hk:scope.kind=.function)(fR:∀p∈cl,X.env.cells.lookup p.1=some p.2)(hcn:∀x,%[|85]->∃c,cl.lookup x=some c)(ix:Gd X N scope js)(hl:js.length=N.length)(hns:h'.Ns s.heap.objs.size (λ_=>none))(fe:Heap.SameBut s.heap.objs.size (s.heap.push ob) h'):
  Inv (X.cmp N scope cl #[s,H,fp]) [] (sub js σ) H {s with heap:=h',toks:=t' }:=by
 have dO:∀x c,cl.lookup x=some c->X.env.cells.lookup x=some c:=λx c e=>fR (x,c) (zAZ e)
 have eS:∀b o,s.heap.get? b=some o->h'.get? b=some o:=λb o e=>(fe.2 b (zAI (zAF e))).trans %[e|120]
 refine#[#[I.ok.mod,?_,I.ok.glob,I.ok.blt,zAA _,λx y c h1 h2=>I.ok.inj x y c (dO x c h1) (dO y c h2),λx hx=>hcn x hx,λx c h=>?_,I.ok.hd,I.ok.frames,.inl rfl,λb hb=>#[zAI (gT b hb),λx c e=>(hf b hb).2.2.2.2.1 x c (dO x c e)],
   I.bs,zAC I.ok.bsz I.sz,λb o e hb=>?_,λb hb hs=>?_,I.stack,I.stkFree],rfl,I.bare,Un.kept eS,#[_,hns,λi x v e1 e2 e3=>?_],λx c e=>?_,I.hok.fresh (zAA _),λx c e=>I.freeC x c (dO x c e),λp hp=>?_,I.hok.kept eS,?_]
 ·show (relabel scope X.env).kind=.function;exact hk
 ·exact absurd (show false=true from h) zAG
 ·rcases (hf b hb).2.2.2.1 with z|z
  ·exact I.ok.noex b o e z
  ·exact absurd (zAN (zAF (I.ok.bs b o e).1) z) (zBN _)
 ·rcases List.mem_cons.mp (I.stkSub b hs)with z|z
  ·exact (hf b hb).2.1 z
  ·exact (hf b hb).2.2.1 z
 ·have fD:(sub js σ)[i]? = some (some v):=e2;unfold sub at fD;rw[List.getElem?_map]at fD
  cases ej:js[i]? with
  |none=>rw[ej]at fD;cases fD
  |some o=>
   rw[ej]at fD
   cases o with
   |none=>cases fD
   |some j=>
    obtain⟨a1,a2,a3⟩:=ix i x j e1 ej;have e4:(σ[j]?).join=some v:=zAH fD
    have e5:σ[j]? = some (some v):=by
     cases q:σ[j]? with
     |none=>rw[q]at e4;cases e4
     |some o=>
      rw[q]at e4;have:o=some v:=e4;rw[this]
    obtain⟨m,hn,hloc⟩:=I.loc;obtain⟨u,r,l⟩:=hloc j x v a1 e5 (.inr (.inl a2));refine#[u,r,.inr #[.inl a3,?_]];obtain⟨c,hc⟩:=hcn x (.inl a3);refine#[c,hc,?_];rcases l with⟨k,_⟩|⟨_,c',hc',dY⟩
    ·rw[k]at a2;cases a2
    ·have:c'=c:=by
      have:=dO x c hc;rw[hc']at this;exact zAH this
     subst this;obtain⟨o,ho,hd⟩:=dY;exact#[o,eS _ _ ho,hd]
 ·obtain⟨v,o,ho,hd⟩:=I.cell x c (dO x c e);exact#[v,o,eS _ _ ho,hd]
 ·exact absurd (show p∈([]:%[|19]) from hp) %[|1]
 ·unfold sub;rw[List.length_map];exact hl
theorem Inv.uncmp(I:%[|4])(hf:∀b∈fp,CP X pins H b)(J:Inv (X.cmp N scope cl #[s,H,fp]) [] σ' H' s')(fe:Heap.SameBut s.heap.objs.size s'.heap gU):
  Inv X pins σ H' {s' with heap:=gU}:=by
 have u:Un (GU X.stack) fp H H' s.heap s'.heap:=J.base;have ne:∀b o,s.heap.get? b=some o->b≠s.heap.objs.size:=λb o e=>zAI (zAF e)
 exists 604
end
def Ib(wi:TI)(js:List (%[|34]))(g:CC->TG)(tb:CC->Addr->TS):TE:=λσ H Q=>wi σ H λJ H1=>∀(c:CC)acc,H1 acc=none->
 Ek J (g c) (tb c acc) {nx:=λ_ H'=>Q (.ref acc) H',rt:=λ_ _=>False} (sub js σ) (upd H1 acc %[|9])
section
variable {X:Cx}{N:List Str}{scope:Scope}{cl:List (Str×Addr)}{js:List (%[|34])}{dy tg df:Expr}{dw:%[|22]}{rest:List Comprehension}{pos:Pos}{wi:TI}{g:CC->TG}{tb:CC->Addr->TS}
theorem K0{WB:CC->Value->TR}(dW:X.xe=EO)(hc:X.calm=true)(hi:PI X tg df wi)(hs:∀x,foldedSetIterable df X.env x=pure x)(gw:closureFor scope X.env=pure cl)(hk:scope.kind=.function)(fE:∀x∈scope.names,x.2=.local->scope.names.lookup x.1=some .local)(dY:∀x∈scope.names,x.2≠.cell)(fR:∀p∈cl,X.env.cells.lookup p.1=some p.2)(hcn:∀x,%[|85]->∃c,cl.lookup x=some c)(ix:Gd X N scope js)(hl:js.length=N.length)(ht:∀c it ac,HT %[|26] %[|80] 0 it ac tg (WB c ac))(hg:∀c,PG %[|26] tg (g c))(hb:∀c ac,PB %[|26] (WB c (.ref ac)) (tb c ac)):
  PE X %[|80] (Ib wi js g tb):=by
 exists 0;rw[eval_ListComp];have h0:=hi pins s σ H _ I h;refine wpAny_comprehension_free (use:=none) (cl:=cl) rfl hs gw hk fE (AU h0 λv s1 h1=>AU h1 λeY s2 h2=>?_);obtain⟨it,fp,tn,J,H2,e,I2,T,gJ,f2,hR⟩:=h2;subst e;refine wpAny_newObj_type (wpAny_newFunctionEnv dY (by intro y hy;simp at hy) (λh₁ gx fF=>?_) hk);dsimp only at gx fF ⊢;exists 602;exists 603
 have d7:=codeAny_mono (CV (X:=X.cmp N scope cl #[{s2 with heap:=s2.heap.push {cls:=.type "list",data:=.seq ([]:%[|6]).toArray}},upd H2 s2.heap.objs.size %[|9],fp]) (e:=.ListComp dy (#[tg,df,dw,0]::rest) scope pos) (d:=0) (acc:=.ref s2.heap.objs.size) (pins:=[]) dW hc (ht _ _ _) rfl rfl rfl T (hg _) (hb _ _) I4 iZ f4 hR') (R':=compPost %[|18] X.A X.xe none %[|51] (.ref s2.heap.objs.size) %[|65].objs.size) (λr s' hq=>by
  obtain⟨rfl,σ',H',J',q⟩:=hq
  obtain⟨m,hn,_⟩:=id J'.loc
  exact#[m,hn,λgU hs''=>#[.ref s2.heap.objs.size,H',I3.uncmp f3 J' hs'',rfl,q]])
 exists 26
end
structure A1D(X:Cx)(N:List Str)(scope:Scope)(cl:List (Str×Addr))(js:List (%[|34])):Prop where
 clos:closureFor scope X.env=pure cl
 kind:scope.kind=.function
 loc:(scope.names.all λx=>(x.2 != .local || scope.names.lookup x.1 == some .local) && x.2 != .cell)=true
 ccl:∀p∈cl,X.env.cells.lookup p.1=some p.2
 cn:((relabel scope X.env).names.all λp=>!(p.2 == .cell || p.2 == .free) || (cl.lookup p.1).isSome)=true
 sh:((N.zip js).all λp=>match p.2 with|none=>true|some j=>X.N[j]? == some p.1 && X.env.kindOf p.1 == some .cell && (relabel scope X.env).names.lookup p.1 == some .cell)=true
 len:js.length=N.length
section
variable {X:Cx}{N:List Str}{scope:Scope}{cl:List (Str×Addr)}{js:List (%[|34])}
theorem A1D.names(h:A1D X N scope cl js):∀x∈scope.names,x.2=.local->scope.names.lookup x.1=some .local:=λx hx e=>by
 have q:=(List.all_eq_true.mp h.loc) x hx;rw[zAX]at q;rw[e]at q
 simpa using q.1
theorem A1D.cell(h:A1D X N scope cl js):∀x∈scope.names,x.2≠.cell:=λx hx e=>by
 have q:=(List.all_eq_true.mp h.loc) x hx;rw[zAX,e]at q;exact absurd q.2 %[|2]
theorem A1D.hcn(h:A1D X N scope cl js):∀x,%[|85]->∃c,cl.lookup x=some c:=λx hx=>by
 rcases hx with e|e
 ·have q:=(List.all_eq_true.mp h.cn) _ (zAZ e);exact Option.isSome_iff_exists.mp (by simpa using q)
 ·have q:=(List.all_eq_true.mp h.cn) _ (zAZ e);exact Option.isSome_iff_exists.mp (by simpa using q)
theorem A1D.shr(h:A1D X N scope cl js):Gd X N scope js:=λi x j e1 e2=>by
 have hm:(x,some j)∈N.zip js:=by
  have:(N.zip js)[i]? = some (x,some j):=by rw[List.getElem?_zip_eq_some];exact#[e1,e2]
  exact zAJ this
 have q:=(List.all_eq_true.mp h.sh) _ hm;simp only[zAX]at q;exact#[eq_of_beq q.1.1,eq_of_beq q.1.2,eq_of_beq q.2]
variable {dy tg df d5 di:Expr}{dw dA:%[|22]}{pos:Pos}{wi:TI}{gS:CC->TI}{g g1:CC->TG}{tc tc1:CC->TT}{te:CC->TE}
theorem A8(h:A1D X N scope cl js)(hi:PI X tg df wi)(hg:∀c,PG %[|26] tg (g c))(jF:∀c,Qf %[|26] dw (tc c))(he:∀c,PE %[|26] dy (te c))(dW:X.xe=EO:=by rfl)(hc:X.calm=true:=by rfl)(hs:∀x,foldedSetIterable df X.env x=pure x:=by intro _;rfl):
  PE X %[|91] (Ib wi js g λc ac=>Du (tc c) (Dm ac (te c))):=
 K0 (WB:=λc ac=>ET %[|26] dw dy ac) dW hc hi hs h.clos h.kind h.names h.cell h.ccl h.hcn h.shr h.len (λc it ac=>Nf) hg λc ac=>GQ dW (jF c) (he c)
theorem Sh(h:A1D X N scope cl js)(hi:PI X tg df wi)(hg:∀c,PG %[|26] tg (g c))(jF:∀c,Qf %[|26] dw (tc c))(hi1:∀c,PI %[|26] d5 di (gS c))(fZ:∀c,PG %[|26] d5 (g1 c))(hif1:∀c,Qf %[|26] dA (tc1 c))(he:∀c,PE %[|26] dy (te c))(hs1:∀c x,foldedSetIterable di %[|26].env x=pure x:=by intro _ _;rfl)(dW:X.xe=EO:=by rfl)(hc:X.calm=true:=by rfl)(hs:∀x,foldedSetIterable df X.env x=pure x:=by intro _;rfl):
  PE X (.ListComp dy %[|45] scope pos) (Ib wi js g λc ac=>Du (tc c) (NP (gS c) (g1 c) (Du (tc1 c) (Dm ac (te c))))):=
 K0 (WB:=λc ac=>Iz %[|26] dw (.ListComp dy %[|45] scope pos) di ac) dW hc hi hs h.clos h.kind h.names h.cell h.ccl h.hcn h.shr h.len (λc it ac=>Ya (hs1 c)) hg
  λc ac=>YN dW hc (jF c) (hi1 c) (fZ c) (GQ dW (hif1 c) (he c))
end
section
variable {X:Cx}{pins:%[|19]}{σ:St}{H:Hp}{s:Shared}{fp:%[|3]}{h':Heap}
theorem Inv.turnedL(I:%[|4])(hf:∀b∈fp,CP X pins H b)(k:∀b o,b∉fp->s.heap.get? b=some o->h'.get? b=some o):%[|16] H {s with heap:=h',toks:=t' }:=by
 have nfp:∀b u,H b=some u->b∉fp:=λb u e z=>by rw[(hf b z).1]at e;cases e
 refine I.call' (ch:=fp) (s':={s with heap:=h',toks:=t' }) rfl #[λb o e _ _ hx=>k b o hx e,λb o e _ _ hx=>#[o.slots,k b o hx e],λ_ _ _ n _=>n,λb o e hx=>#[o,k b o hx e],λ_ _ q=>q,λ_ _ _ q=>q,λ_ ps q=>#[#v[],by rw[q];simp]] (λb u e=>?_) I.bare
  λb hb=>#[(hf b hb).2.2.2.1,(hf b hb).2.1,(hf b hb).2.2.2.2.1,(hf b hb).2.2.2.2.2]
 refine (I.hok b u e).stay (λc v hc q=>k c v ?_ q) (λ_ q=>q) λ_ _ q=>q
 rcases hc with z|z
 ·rw[z];exact nfp b u e
 ·exact nfp c _ z
theorem Inv.turnedT(I:%[|4])(hf:∀b∈fp,CP X pins H b)(k:∀b o,b∉fp->s.heap.get? b=some o->h'.get? b=some o)(hT:s.heap.objs.size<=T)(hz:xs.length<=sizeLine)(rv:Vals xs its)(ht:IsTup h' T its.toArray):%[|16] (upd H T (.tup xs)) {s with heap:=h',toks:=t' }:=by
 have nfp:∀b u,H b=some u->b∉fp:=λb u e z=>by rw[(hf b z).1]at e;cases e
 have hn:H T=none:=I.hok.fresh hT
 refine I.call' (ch:=fp) (s':={s with heap:=h',toks:=t' }) rfl #[λb o e _ _ hx=>k b o hx e,λb o e _ _ hx=>#[o.slots,k b o hx e],λb o e n _=>?_,λb o e hx=>#[o,k b o hx e],λb q e=>?_,λb o u e=>?_,λb ps e=>#[#v[],?_]] (λb u e=>?_) I.bare
  λb hb=>#[(hf b hb).2.2.2.1,(hf b hb).2.1,(hf b hb).2.2.2.2.1,(hf b hb).2.2.2.2.2]
 ·rw[Af (zAI (zAN (zAF e) hT))];exact n
 ·rw[Af (Ai e hn)];exact e
 ·rw[Af (Ai e hn)];exact e
 ·rw[Af (Ai e hn),e];simp
 ·by_cases hb:b=T
  ·subst hb;rw[A0A]at e;cases e;exact#[hz,its,rv,ht]
  ·rw[Af hb]at e;refine (I.hok b u e).stay (λc v hc q=>k c v ?_ q) (λc q=>?_) λc xs q=>?_
   ·rcases hc with z|z
    ·rw[z];exact nfp b u e
    ·exact nfp c _ z
   ·rw[Af (Ai q hn)];exact q
   ·rw[Af (Ai q hn)];exact q
end
def ZV(z:Str):It:=#[λi _=>i<z.length,λi H x H'=>H'=H/\∃c,z.cps[i]? = some c/\x=.str #[#v[c]],λi _=>i=z.length]
theorem W2(Pv:Nat->St->Hp->Prop)(h0:Pv 0 σ H)(hs:∀i c σ H,z.cps[i]? = some c->Pv i σ H->g (.str #[#v[c]]) σ H λσ2 H2=>tb {D with nx:=Pv (i+1),ct:=Pv (i+1),bk:=D.nx} σ2 H2)(hd:∀σ H,Pv z.length σ H->D.nx σ H):Ek (ZV z) g tb D σ H:=by
 refine#[λi m σ H=>m=z.length-i/\i<=z.length/\Pv i σ H,#[z.length,by simp,zA5 _,h0],?_];rintro i m σ H ⟨rfl,hi,p⟩;by_cases dQ:i<z.length
 ·refine .inr #[dQ,Pv (i+1),λσ' H' p'=>#[z.length-(i+1),by omega,rfl,dQ,p'],λx H' y=>?_];obtain⟨e,c,ec,e2⟩:=y;subst e e2;exact hs i c σ _ ec p
 ·have e:i=z.length:=by omega
  subst e;exact .inl #[rfl,hd σ H p]
theorem LR{P:Program}{w:World}{K:PySem.W.Frag}{tg:Expr}(ty:String)(hty:["enumerate","zip","dict_itemiterator","dict_reverseitemiterator","odict_iterator","itertools.zip_longest","itertools.pairwise"].contains ty=false)(it:Addr)(z:Str)(t:Tok)(W:∀A':Around,A'.handled=none->Walks P w A' it [it] [it] z.cps.size (SignAt z) (λi h=>h.IsStrIter it ty z t i))(slf:∀(A:Around) (i:Nat) (s:Shared) (Q:Value->Shared->Prop) (E:Value->Shared->Prop),s.heap.IsStrIter it ty z t i->Q (.ref it) s->wpAny (model P w) A (pyIter (.ref it)) Q E s):L0 P w K tg (ZV z) [it] it (λi h=>h.IsStrIter it ty z t i) where
 mem:=by simp
 obj:=λi h st b hb=>by
  have e:b=it:=by simpa using hb
  subst e;obtain⟨o,e,c,d⟩:=st;exact#[o,e,λv z=>by rw[d]at z;cases z]
 keep:=λi h h' st k=>let ⟨o,ho,r⟩:=st;#[o,k it %[|1] o ho,r]
 item:=by
  exists 608;refine (W X.A (I.ok.hd hc)).item i s _ _ hg st λv h' tk hv iU kk=>?_
  obtain⟨c,u,ec,rfl⟩:=hv;have I1:%[|16] H {s with heap:=h',toks:=tk}:=I.turnedL hf kk;obtain⟨o,e,cl,d⟩:=id iU;exact#[_,rfl,Pp (s:={s with heap:=h',toks:=tk}) e cl d hty #[.str #[#v[c]],H,I1,#[u,rfl],#[rfl,c,ec,rfl],iU,λb hb=>(hf b hb).1]]
 done:=by
  exists 608;have e:i=z.cps.size:=hg;subst e;exact (W X.A (I.ok.hd hc)).done s _ _ st λh' tk kk=>#[rfl,I.turnedL hf kk]
 self:=slf
section
variable {X:Cx}{tg:Expr}
inductive Xp(R:It->Hp->Prop)(x:V)(H1:Hp):Prop|mk(z)(_:x=.str z)(_:R (ZV z) H1)
def bv(tl:TE):TI:=λσ H R=>tl σ H (Xp R)
theorem Ym{tl:TE}(hl:PE X l tl):PI X tg l (bv tl):=by
 intro pins s σ H R I h;refine AU (hl pins s σ H _ I h) λv s1 ⟨x,H1,I1,r1,q1⟩=>?_
 obtain⟨z,e,q⟩:=q1;subst e;obtain⟨t,rfl⟩:=r1
 have dI:∀(o:Obj)(tn:Nat->Heap->Prop),L0 X.prog X.w X.K tg (ZV z) [s1.heap.objs.size] s1.heap.objs.size tn->tn 0 (s1.heap.push o)->bF X pins σ tg R (.ref s1.heap.objs.size) {s1 with heap:=s1.heap.push o}:=λo tn T st=>by
  refine#[s1.heap.objs.size,[s1.heap.objs.size],tn,_,H1,rfl,I1.kept (t':=s1.toks) λb o e=>Heap.get?_push_of_some _ e,T,st,λb hb=>?_,q];have e:b=s1.heap.objs.size:=by simpa using hb
  subst e;exact I1.fpOk (zAA _) (I1.hok.fresh (zAA _))
 cases ha:z.cps.all (· < 128)
 ·exact wpAny_pyIter_wide ha (dI _ _ (LR "str_iterator" %[|2] _ z t (λA' hA=>Walks.strWide hA _ z t) λ_ _ _ _ _ st h=>wpAny_pyIter_striter_wide st h) #[_,Heap.get?_push_size _ rfl,rfl,rfl])
 ·exact wpAny_pyIter_ascii ha (dI _ _ (LR "str_ascii_iterator" %[|2] _ z t (λA' hA=>Walks.strAscii hA _ z t) λ_ _ _ _ _ st h=>wpAny_pyIter_striter_ascii st h) #[_,Heap.get?_push_size _ rfl,rfl,rfl])
end
section
variable {X:Cx}
end
def Zo(a:Addr):It:=
 #[λi H=>Cd λxs x=>H a=some %[|12]/\xs[i]? = some x,λi H x H'=>Cd λT y=>Im (H T=none) (∀xs,H a=some %[|12]->xs[i]? = some y) (x=.ref T) (H'=upd H T (.tup [.int (i:Nat),y])),λi H=>∃xs,H a=some %[|12]/\xs.length=i]
theorem Je(Pv:Nat->St->Hp->Prop)(h0:Pv 0 σ H)(hl:∀i σ H,i<=xs.length->Pv i σ H->H a=some %[|12])(hs:∀i y T σ H,xs[i]? = some y->H T=none->Pv i σ H->g (.ref T) σ (upd H T (.tup [.int (i:Nat),y])) λσ2 H2=>tb {D with nx:=Pv (i+1),ct:=Pv (i+1),bk:=D.nx} σ2 H2)(hd:∀σ H,Pv xs.length σ H->D.nx σ H):Ek (Zo a) g tb D σ H:=by
 refine#[λi m σ H=>m=xs.length-i/\i<=xs.length/\Pv i σ H,#[xs.length,by simp,zA5 _,h0],?_];rintro i m σ H ⟨rfl,hi,p⟩;have q:=hl i σ H hi p;by_cases dQ:i<xs.length
 ·refine .inr #[#[xs,xs[i],q,by simp[dQ]],Pv (i+1),λσ' H' p'=>#[xs.length-(i+1),by omega,rfl,dQ,p'],λx H' y=>?_];obtain⟨T,y,hT,hy,e1,e2⟩:=y;subst e1 e2;exact hs i y T σ _ (hy xs q) hT p
 ·have e:i=xs.length:=by omega
  subst e;exact .inl #[#[xs,q,rfl],hd σ H p]
theorem NV{P:Program}{w:World}{K:PySem.W.Frag}{jG:%[|22]}{k:Nat}{tp:Pos}(a e it:Addr)(hei:e≠it):
  L0 P w K (.Tuple jG k tp) (Zo a) [e,it] e (λi h=>(∃gW,IsEnum h e it i gW)/\h.IsListIter it a i) where
 mem:=by simp
 obj:=λi h st b hb=>by
  obtain⟨⟨gW,he⟩,o,ho,c,d⟩:=st;rcases List.mem_cons.mp hb with q|q
  ·subst q
   exact#[_,he,λv z=>by
    have z':Data.fields _=Data.cell v:=z
    cases z']
  ·have q':b=it:=by simpa using q
   subst q';exact#[o,ho,λv z=>by rw[d]at z;cases z]
 keep:=λi h h' st k=>by
  obtain⟨⟨gW,he⟩,hi⟩:=st;exact#[#[gW,k e %[|1] _ he],hi.at λo e=>k it %[|1] o e]
 item:=by
  exists 608;obtain⟨xs,x,hq,hx⟩:=hg;obtain⟨its,rv,p,hz⟩:=I.list (SqL.of hq);obtain⟨u,hu,ru⟩:=rv.get hx;have dj:=rv.length;have hi:i<xs.length:=%[hx|117].1;have nai:a≠it:=Ai hq (hf it %[|1]).1;have nae:a≠e:=Ai hq (hf e %[|1]).1;have D:=Draws.list (prog:=X.prog) (w:=X.w) (A:=X.A.in1) (I.ok.hd hc) it a nai its.toArray;have WT:=WalksT.enumerateD (A:=X.A) D e hei (by simp[hei,nae.symm]) %[|1];refine WT.item i s _ _ (by simp;omega) #[st.1,st.2,p.isList] λT jB h1 tk hv hT htup hmid kk=>?_
  obtain⟨t',x2,iJ,rfl⟩:=hv;have hx2':its[i]? = some x2:=by simpa using iJ
  have ex:x2=u:=by rw[hu]at hx2';exact (zAH hx2').symm
  subst ex;have I1:%[|16] (upd H T (.tup [.int (i:Nat),x])) {s with heap:=h1,toks:=tk}:=I.turnedT (its:=[.int i t',x2]) hf kk hT (by show 2<=sizeLine;decide) (.cons #[_,rfl] (.cons ru .nil)) htup
  have nT:∀b∈[e,it],b≠T:=λb hb z=>by
   subst z;exact WT.apart _ _ _ hmid hb
  have hf1:∀b∈[e,it],CP X pins (upd H T (.tup [.int (i:Nat),x])) b:=λb hb=>#[by rw[Af (nT b hb)];exact (hf b hb).1,(hf b hb).2]
  refine#[_,rfl,WT.go jG k tp i T _ _ _ hmid λh2 gJ kk2=>?_];refine#[.ref T,_,I1.turnedL (t':=tk) hf1 kk2,rfl,#[T,x,I.hok.fresh hT,λzs hzs=>?_,rfl,rfl],#[gJ.1,gJ.2.1],λb hb=>(hf1 b hb).1];rw[hq]at hzs;cases hzs;exact hx
 done:=by
  exists 608;obtain⟨xs,hq,rfl⟩:=hg;obtain⟨its,rv,p,hz⟩:=I.list (SqL.of hq);have dj:=rv.length;have nai:a≠it:=Ai hq (hf it %[|1]).1;have nae:a≠e:=Ai hq (hf e %[|1]).1;have D:=Draws.list (prog:=X.prog) (w:=X.w) (A:=X.A.in1) (I.ok.hd hc) it a nai its.toArray;have WT:=WalksT.enumerateD (A:=X.A) D e hei (by simp[hei,nae.symm]) %[|1];refine WT.done s _ _ ?_ λh' tk kk=>#[rfl,I.turnedL hf kk]
  have e1:its.toArray.size=xs.length:=by simp;omega
  rw[e1];exact#[st.1,st.2,p.isList]
 self:=λA i s Q E st h=>by
  obtain⟨⟨gW,he⟩,_⟩:=st;exact wpAny_pyIter_enum he h
section
variable {X:Cx}{tg:Expr}
inductive OL(R:It->Hp->Prop)(vs:List V)(H1:Hp):Prop|mk(a xs)(_:vs=[.ref a])(_:H1 a=some %[|12])(_:R (Zo a) H1)
def YK(ta:TA):TI:=λσ H R=>ta σ H (OL R)
theorem Mh(hg:Gl X "enumerate")(hm:X.mg "enumerate"=none)(ha:PA X [a] ta)(hs:starEach [a] X.env=[(false,eval a X.env)]:=by rfl):PI X (.Tuple jG k tp) (.Call (.Name "enumerate" p) [a] [] pos) (YK ta):=by
 intro pins s σ H R I h;refine Call_ (EU I hg hm boot_enumerate (zB7 (AU (ha pos pins s σ H _ I h) λus s1 ⟨vs,H1,I1,r1,q1⟩=>?_) hs rfl));obtain⟨l,xs,e,hq,q⟩:=q1;subst e
 cases r1 with
 |cons r rr=>
  cases rr;cases r;obtain⟨its,rv,pl,hz⟩:=I1.list (SqL.of hq);refine call_enumerate_list pl.isList λh' he iK hsz hk=>wpAny_pyIter_enum he ?_
  have I2:%[|16] H1 {s1 with heap:=h' }:=I1.kept (t':=s1.toks) hk
  have fp2:∀b∈[s1.heap.objs.size+1,s1.heap.objs.size],CP X pins H1 b:=λb hb=>by
   have hle:s1.heap.objs.size<=b:=by
    rcases List.mem_cons.mp hb with q|q
    ·omega
    ·have:b=s1.heap.objs.size:=by simpa using q
     omega
   exact I1.fpOk hle (I1.hok.fresh hle)
  exact#[_,_,_,_,H1,rfl,I2,NV l (s1.heap.objs.size+1) s1.heap.objs.size (Nat.succ_ne_self _),#[#[_,he],iK],fp2,q]
end
structure Stp(fr ch:%[|3])(h h':Heap):Prop where
 keep:∀b o,b∉fr->b∉ch->h.get? b=some o->h'.get? b=some o
 slot:∀b o,b∉ch->h.get? b=some o->∃sl,h'.get? b=some {o with slots:=sl}
theorem Stp.more(x:Stp fr ch h h')(m:∀b∈ch,b∈ch'):Stp fr ch' h h':=
 #[λb o hb hc=>x.keep b o hb λz=>hc (m b z),λb o hc=>x.slot b o λz=>hc (m b z)]
theorem Stp.trans(x:Stp fr ch h h1)(y:Stp fr ch h1 h2):Stp fr ch h h2:=
 #[λb o hb hc e=>y.keep b o hb hc (x.keep b o hb hc e),λb o hc e=>let ⟨_,e1⟩:=x.slot b o hc e;let ⟨sl,e2⟩:=y.slot b _ hc e1;#[sl,e2]]
theorem Stp.un(x:Stp fr ch h h')(H:Hp):Un fr ch H H h h':=
 #[λb o e _ hb hx=>x.keep b o hb hx e,λb o e _ _ hx=>x.slot b o hx e,λ_ _ _ n _=>n,λb o e hx=>let ⟨_,z⟩:=x.slot b o hx e;#[_,z],λ_ _ q=>q,λ_ _ _ q=>q,λ_ ps q=>#[#v[],by rw[q];simp]]
theorem Stp.hok(x:Stp fr ch h h')(ok:HOk P w H h)(hf:∀b∈fr,H b=none)(hc:∀b∈ch,H b=none):HOk P w H h':=λb u e=>by
 have nf:∀c v,H c=some v->c∉fr/\c∉ch:=λc v q=>#[(λz=>nomatch (hf c z).symm.trans q),(λz=>nomatch (hc c z).symm.trans q)]
 refine (ok b u e).stay (λc v hb q=>?_) (λ_ q=>q) λ_ _ q=>q
 rcases hb with z|z
 ·subst z;exact x.keep c v (nf c u e).1 (nf c u e).2 q
 ·exact x.keep c v (nf c _ z).1 (nf c _ z).2 q
inductive Vb(h:Heap)(e:Addr)(cls:Value)(dx:Option Addr)(T:Addr)(fl:Value):Prop where
 |mk (vs sl oT ts) (_:h.get? e=some ⟨cls,dx,.fields vs,sl⟩) (_:vs[1]? = some (.ref T)) (_:T≠e) (_:h.get? T=some oT) (_:oT.data=.fields ts) (_:ts[3]? = some fl) (_:vs[2]? = some .none)
section
variable {M:Model}{A:Around}{E:Value->Shared->Prop}{s:Shared}{base:Heap}{env:Env}{outer:List Env}{L e:Addr}{cls:Value}{dx:Option Addr}{vs:Array Value}{sl:Array (%[|14])}{Q:Unit->Shared->Prop}
theorem KR(eP:A.frames=some (env::outer))(hl:s.heap.FunFrames base (env::outer))(hf:env.frame=some L)(he:s.heap.get? e=some #[cls,dx,.fields vs,sl])(hsz:1<vs.size)(hv2:vs[2]? = some .none)(k:∀h' T,s.heap.objs.size<=T->Stp (GU (env::outer)) [e] s.heap h'->Vb h' e cls dx T (rawInt L)->Q () {s with heap:=h' }):
  wpAny M A (do let a <-frameOf env;let pl <-entryPlaceOf L jH;let b <-EntryCells.newEntry head a .none (rawInt L) .none pl;setField (.ref e) 1 b) Q E s:=by
 have nfr:e∉GU (env::outer):=λz=>by
  obtain⟨_,o,ho,nd⟩:=hl.mem z;rw[he]at ho;cases ho;exact nd vs rfl
 refine wpAny_bind (wpAny_frameOf_fun eP hl hf λh1 so=>wpAny_bind (wpAny_entryPlaceOf λpl dE=>?_));obtain⟨_,so1,so2⟩:=so;unfold EntryCells.newEntry newFields;refine wpAny_bind (wpAny_newObj_type ?_ (dE.sizeOk5 _ _ _ _ _));have e1:h1.get? e=some #[cls,dx,.fields vs,sl]:=(so1 e nfr).trans he;have e2:=Heap.get?_push_of_some (h:=h1) {cls:=.type "traceback",dict:=none,data:=.fields ([head,.ref L,.none,rawInt L,.none]++(if pl.isEmpty then List.replicate 6 Value.none else pl)).toArray} e1;refine wpAny_setField e2 rfl hsz (k _ h1.objs.size %[|0] ?_ ?_)
 ·have dk:∀b o,b∉[e]->h1.get? b=some o->∀(ob:Obj)(f:Obj->Obj),((h1.push ob).update e f).get? b=some o:=λb o hb q ob f=>
   (Heap.get?_update_other _ _ (zB (List.ne_of_not_mem_cons hb))).trans %[q|120]
  refine#[λb o hb hc q=>dk b o hc ((so1 b hb).trans q) _ _,λb o hc q=>?_];obtain⟨sl',z⟩:=so2 b o q;exact#[sl',dk b _ hc z _ _]
 ·have ne:h1.objs.size≠e:=zBO (zAF e1);refine#[_,sl,_,_,Heap.get?_update_self _ e2 rfl,?_,ne,(Heap.get?_update_other _ _ (zB ne)).trans (Heap.get?_push_size h1 rfl),rfl,?_,?_]
  ·simp[hsz]
  ·rcases dE with rfl|⟨_,_,_,_,_,_,_,rfl⟩<;>simp
  ·rw[Array.getElem?_setIfInBounds_ne %[|2]];exact hv2
theorem Se(eP:A.frames=some (env::outer))(hl:s.heap.FunFrames base (env::outer))(hf:env.frame=some L)(he:s.heap.get? e=some #[cls,dx,.fields vs,sl])(h1:vs[1]? = some .none)(hv2:vs[2]? = some .none)(k:∀h' T,s.heap.objs.size<=T->Stp (GU (env::outer)) [e] s.heap h'->Vb h' e cls dx T (rawInt L)->Q () {s with heap:=h' }):wpAny M A (noteFrame (.ref e) env) Q E s:=by
 unfold noteFrame;simp only[hf];refine wpAny_bind (wpAny_field he rfl h1 ?_);rw[if_neg %[|2]];exact KR eP hl hf he (Array.getElem?_eq_some_iff.mp h1).1 hv2 k
theorem Oq{fl fl':Value}(hF:Vb s.heap e cls dx T fl):Stp [] [T] s.heap (s.heap.update T (Obj.mapFields (·.setIfInBounds 3 fl')))/\Vb (s.heap.update T (Obj.mapFields (·.setIfInBounds 3 fl'))) e cls dx T fl':=by
 obtain⟨ws,sl,oT,ts,he,h1,ne,hT,hd,h3,hv2⟩:=hF;have dk:∀b o,b∉[T]->s.heap.get? b=some o->(s.heap.update T (Obj.mapFields (·.setIfInBounds 3 fl'))).get? b=some o:=λb o hb q=>(Heap.get?_update_other _ _ (zB (List.ne_of_not_mem_cons hb))).trans q
 refine#[#[λb o _ hc q=>dk b o hc q,λb o hc q=>#[_,dk b o hc q]],ws,sl,_,_,dk e _ (by simpa using zB ne) he,h1,ne,Heap.get?_update_self _ hT (zBY (zBD hd _)),zBD hd _,?_,hv2];simp[(Array.getElem?_eq_some_iff.mp h3).1]
theorem OC(eP:A.frames=some (env::outer))(hl:s.heap.FunFrames base (env::outer))(hf:env.frame=some L)(hF:Vb s.heap e cls dx T .none)(k:∀h' T',s.heap.objs.size<=T'->Stp (GU (env::outer)) [e,T] s.heap h'->Vb h' e cls dx T' (rawInt L)->Q () {s with heap:=h' }):wpAny M A (noteFrame (.ref e) env) Q E s:=by
 obtain⟨S,F2⟩:=Oq (fl':=.none) hF;obtain⟨ws,sl,oT,ts,he,h1,ne,hT,hd,h3,hv2⟩:=hF;unfold noteFrame;simp only[hf];refine wpAny_bind (wpAny_field he rfl h1 ?_);rw[if_pos (show (Value.ref T != Value.none)=true by simp)];refine wpAny_bind (wpAny_field hT hd h3 ?_);rw[if_neg (show ¬((Value.none == rawInt L)=true) by simp[rawInt])];refine wpAny_bind (wpAny_setField hT hd (Array.getElem?_eq_some_iff.mp h3).1 ?_);obtain⟨ws',sl',_,_,iy,h1',_,_,_,_,hv2'⟩:=F2;refine KR eP (hl.of_keeps λb o q nd=>?_) hf iy (Array.getElem?_eq_some_iff.mp h1').1 hv2' λh' T' hle S' F'=>k h' T' (by simpa using hle) ?_ F'
 ·obtain⟨sl2,z⟩:=S.slot b o (λz=>by
   have z':b=T:=by simpa using z
   subst z'
   rw[hT]at q;cases q
   exact nd ts hd) q
  exact#[_,z,rfl]
 ·refine Stp.trans (h1:=s.heap.update T (Obj.mapFields (·.setIfInBounds 3 Value.none))) #[λb o _ hc q=>S.keep b o %[|1] (λz=>hc %[z|116]) q,λb o hc q=>S.slot b o (λz=>hc %[z|116]) q] (S'.more λb hb=>?_);rw[List.mem_singleton.mp hb];exact List.mem_cons_self
theorem WN{fl:Value}(hF:Vb s.heap e cls dx T fl)(k:∀h',Stp [] [T] s.heap h'->Vb h' e cls dx T .none->Q () {s with heap:=h' }):wpAny M A (setFlight (.ref e) none) Q E s:=by
 obtain⟨S,F2⟩:=Oq (fl':=.none) hF;obtain⟨ws,sl,oT,ts,he,h1,ne,hT,hd,h3,hv2⟩:=hF;unfold setFlight;refine wpAny_bind (wpAny_field he rfl h1 ?_);rw[if_pos (show (Value.ref T != Value.none)=true by simp)];exact wpAny_setField hT hd (Array.getElem?_eq_some_iff.mp h3).1 (k _ S F2)
end
def Lr:List Value:=[.type "ValueError",.type "Exception",.type "BaseException",.type "object"]
structure YM(K:PySem.W.Frag)(C cT:Addr)(ini:Option Addr):Prop where
 cls:bP λnm q N bs iz sn sub ab jI dd k0 k1 k2 k3 k5=>BV (K.lookup C=some (excClassObj nm q C N bs (.ref cT::Lr) iz sn sub ab jI dd k0 k1 k2 k3 k5 "ValueError.__new__")) (PySem.W.nsOkIn K N=true) (PySem.W.nsIn K N "__init__"=some (ini.map Value.ref))
 tail:PySem.W.tailIn K Lr (.ref cT::Lr)=true
 kp:PySem.W.keepIn K (.ref C)=true
theorem PF{K:PySem.W.Frag}(l:K.lookup N=some #[oc,od,.dict es ep,sl])(s:(es.all λe=>match e.key with|.str _ _=>true|_=>false)=true):PySem.W.nsOkIn K N=true:=by
 unfold PySem.W.nsOkIn;rw[l];exact s
theorem RC{K:PySem.W.Frag}(l:K.lookup cT=some #[c0,d0,.cls cd,sl])(o:PySem.W.nsOkIn K cd.ns=true)(n:PySem.W.nsIn K cd.ns "__init__"=some none):
  PySem.W.tailIn K Lr (.ref cT::Lr)=true:=by
 have t0:PySem.W.tailIn K Lr Lr=true:=by
  unfold PySem.W.tailIn Lr;simp
 unfold PySem.W.tailIn;refine Bool.or_eq_true_iff.mpr (.inr ?_);simp only[l,o,n,t0];rfl
section
variable {prog:Program}{w:World}{A:Around}{E:Value->Shared->Prop}{h:Heap}{g:Array GenState}{d:Drawn}{t:Nat}{os:OsState}
variable {nm q:Str}{C N:Addr}{bs bm:%[|6]}{iz:Bool}{sn:List Str}{sub:%[|6]}{ab:Bool}{jI:%[|17]}{dd:Option Addr}{k0 k1 k2 k3 k5:%[|14]}
abbrev PM(C t:Addr)(dx:Option Addr):Obj:=#[.ref C,dx,.fields #v[.ref t,.none,.none,.none,.bool false,.none],#v[]]
end
structure XAt(K:PySem.W.Frag)(C cT:Addr):Prop where
 cd:∃cd,BV (PySem.W.clsIn K C=some cd) (cd.mro=.ref C::.ref cT::Lr) (cd.hasDict=true)
 sa:PySem.W.findIn K (.ref C) "__setattr__"=some %[|93]
 ga:PySem.W.findIn K (.ref C) "__getattribute__"=some (some (.builtin "BaseException.__getattribute__"))
 gn:PySem.W.findIn K (.ref C) "__getattr__"=some none
 ca:PySem.W.findIn K (.ref C) "__class__"=some (some %[|78])
 cg:PySem.W.specialIn K %[|78] "__get__"=some (some (.builtin "getset_descriptor.__get__"))
 ct:PySem.W.takesIn K %[|78]=some true
section
variable {prog:Program}{w:World}{A:Around}{E:Value->Shared->Prop}{s:Shared}{K:PySem.W.Frag}{C cT x t:Addr}{f:Str}{u:Value}
theorem XAt.sub(a:XAt K C cT)(X:K.In h)(b:Value)(e:(Value.ref C::.ref cT::Lr).contains b=r):PySem.W.Looks M h (isSubtype (.ref C) b) r:=by
 obtain⟨cd,h1,h2,_⟩:=a.cd;refine zDG X ?_;unfold PySem.W.mroIn;rw[h1,Option.bind_some,h2,if_neg %[|1],e]
end
open Builtin Builtin.ObjectAttr
section
variable {prog:Program}{w:World}{A:Around}{E:Value->Shared->Prop}{s:Shared}{K:PySem.W.Frag}{C cT x:Addr}{ox:Obj}{od:Option Obj}{name:Str}{tk:Tok}{fill expr:Bool}{v:Value}
end
end L2
namespace L2
open PySem PySem.Spec PyProof.Rows
def EI(P:Program)(w:World):IK:=λouter H s E e s'=>cu λ(a T:Addr)(cls:Value)(dx:Option Addr)(H':Hp)=>Wq (e=.ref a) (s'.os=s.os) (AllBare s'.gens) (Un (GU outer) [] H H' s.heap s'.heap) (HOk P w H' s'.heap) (Vb s'.heap a cls dx T .none) (H' a=none) (H' T=none) (s.heap.objs.size<=a) (s.heap.objs.size<=T) (E cls dx H')
theorem Un.stp(u:Un fs [] H0 H h0 h)(S:Stp fr ch h h')(eP:∀b∈fr,b∈fs\/h0.objs.size<=b)(iI:∀b∈ch,h0.objs.size<=b):Un fs [] H0 H h0 h':=by
 have nc:∀b o,h0.get? b=some o->b∉ch:=λb o e z=>absurd (zAF e) (Nat.not_lt.mpr (iI b z))
 refine#[λb o e n hb hx=>S.keep b o (λz=>?_) (nc b o e) (u.keep b o e n hb hx),λb o e n hb hx=>?_,u.free,λb o e hx=>?_,u.tups,u.frzs,u.tbls]
 ·rcases eP b z with q|q
  ·exact hb q
  ·exact absurd (zAF e) (Nat.not_lt.mpr q)
 ·obtain⟨sl,e1⟩:=u.slot b o e n hb hx;obtain⟨sl2,e2⟩:=S.slot b _ (nc b o e) e1;exact#[sl2,e2]
 ·obtain⟨o1,e1⟩:=u.there b o e hx;obtain⟨sl2,e2⟩:=S.slot b _ (nc b o e) e1;exact#[_,e2]
section
variable {P:Program}{w:World}{K:PySem.W.Frag}{mg:Str->%[|14]}{base:Heap}{N:List Str}{dz:Str}{scope:Scope}{f:Addr}{dm:Value}{A:Around}{outer:List Env}{s:Shared}{H:Hp}{E:XK}
def ZN(X:Cx)(E:XK):Prop:=∀pins(σ:St)H' s' a cls dx(vs:Array Value)(sl:Array (%[|14])),%[|16] H' s'->H' a=none->
 s'.heap.get? a=some #[cls,dx,.fields vs,sl]->(vs[1]? = some .none/\vs[2]? = some .none)->X.s₀.heap.objs.size<=a->E cls dx H'->X.xe (.ref a) s'
theorem BI:ZN (Io (EI P w) P w K mg base N dz scope f dm A outer s H E) E:=by
 intro pins σ H' s' a cls dx vs sl I ha he h1 hsz q;have eP:=I.ok.frames;have hl:=I.stack;have lt:s.heap.objs.size<=s'.heap.objs.size:=I.sz
 have fr2:∀b∈GU (envOfC dz scope s.heap.objs.size f dm::outer),b∈GU outer\/s.heap.objs.size<=b:=λb hb=>by
  rcases List.mem_cons.mp (I.stkSub b hb)with z|z
  ·exact .inr (by rw[z];exact I.ok.above)
  ·exact .inl z
 show wpAny _ _ (leaving _ _) _ _ _;unfold leaving;refine wpAny_bind (Se eP hl rfl he h1.1 h1.2 λh2 T hT S F=>WN F λh3 S3 F3=>?_);have u2:=Un.stp I.base S fr2 (λb hb=>by rw[List.mem_singleton.mp hb];exact hsz);have u3:=Un.stp u2 S3 (λb hb=>absurd hb %[|1]) (λb hb=>by rw[List.mem_singleton.mp hb];exact zAC lt hT);have hTn:H' T=none:=I.hok.fresh hT;refine#[a,T,cls,dx,H',rfl,I.os,I.bare,u3,?_,F3,ha,hTn,hsz,zAC lt hT,q];exact S3.hok (S.hok I.hok I.stkFree λb hb=>by rw[List.mem_singleton.mp hb];exact ha) (λb hb=>absurd hb %[|1]) λb hb=>by rw[List.mem_singleton.mp hb];exact hTn
theorem AA(le:∀cls dx H',E1 cls dx H'->E cls dx H'):Cy (EI P w) (Io (EI P w) P w K mg base N dz scope f dm A outer s H E) E1:=by
 intro pins σ H1 s1 e s' I h;obtain⟨a,T,cls,dx,H',rfl,os,bare,un,hok,F,ha,hT,la,lT,q⟩:=h;have I2:=I.call' os un hok bare (λb z=>absurd z %[|1]);have lt:s.heap.objs.size<=s1.heap.objs.size:=I.sz
 have fr2:∀b∈GU (envOfC dz scope s.heap.objs.size f dm::outer),b∈GU outer\/s.heap.objs.size<=b:=λb hb=>by
  rcases List.mem_cons.mp (I2.stkSub b hb)with z|z
  ·exact .inr (by rw[z];exact I2.ok.above)
  ·exact .inl z
 show wpAny _ _ (leaving _ _) _ _ _;unfold leaving;refine wpAny_bind (OC I2.ok.frames I2.stack rfl F λh2 T2 eB S F2=>WN F2 λh3 S3 F3=>?_);have l2:s.heap.objs.size<=T2:=zAC I2.sz eB
 have two:∀b∈[a,T],s.heap.objs.size<=b/\H' b=none:=λb hb=>by
  rcases List.mem_cons.mp hb with z|z
  ·rw[z];exact#[zAC lt la,ha]
  ·rw[List.mem_singleton.mp z];exact#[zAC lt lT,hT]
 have u2:=Un.stp I2.base S fr2 (λb hb=>(two b hb).1);have u3:=Un.stp u2 S3 (λb hb=>absurd hb %[|1]) (λb hb=>by rw[List.mem_singleton.mp hb];exact l2);have hTn:H' T2=none:=I2.hok.fresh eB;refine#[a,T2,cls,dx,H',rfl,I2.os,I2.bare,u3,?_,F3,ha,hTn,zAC lt la,l2,le _ _ _ q];exact S3.hok (S.hok I2.hok I2.stkFree λb hb=>(two b hb).2) (λb hb=>absurd hb %[|1]) λb hb=>by rw[List.mem_singleton.mp hb];exact hTn
end
section
variable {X:Cx}{k:Nat}{fI C cT:Addr}{fd:FuncData}{ps:List Str}{sp:Sp}{Ex:XK}{x:Str}{p pos dC:Pos}{e:Expr}{es:%[|22]}{t:TA}
theorem MR{K:PySem.W.Frag}(a:XAt K C cT)(ty:PySem.W.typeIn K (.ref C)=some (.type "type"))(hh:A.handled=none)(h:wpAny M A xs (λv s1=>Fb λb tp dx=>Im (v=.ref b) (K.In s1.heap) (s1.heap.get? b=some (PM C tp dx)) (E (.ref b) s1)) E s):wpAny M A (raiseStmt env (some xs) none) Q E s:=by
 unfold raiseStmt;refine wpAny_bind (wpAny_mono h (λv s1 h1=>?_) λ_ _ z=>z);obtain⟨b,tp,dx,rfl,KX,hb,q⟩:=h1;have eO:s1.heap.get? b=some #[.ref C,dx,.fields #v[.ref tp,.none,.none,.none,.bool false,.none],#v[]]:=hb;have T0:PySem.W.Looks M s1.heap (typeOf (.ref b)) (.ref C):=(zC6 eO).andThen .now
 have T1:PySem.W.Looks M s1.heap (isType (.ref b)) false:=by
  unfold isType loadHead;exact (zC6 eO).andThen .now
 have T2:PySem.W.Looks M s1.heap (isExcClass (.ref b)) false:=by
  unfold isExcClass;exact T1.andThen .now
 have T3:PySem.W.Looks M s1.heap (isInstance (.ref b) (.type "BaseException")) true:=T0.andThen (a.sub KX _ rfl)
 have T4:PySem.W.Looks M s1.heap (excFromValue (.ref b) "exceptions must derive from BaseException") (.ref b):=by
  unfold excFromValue;exact T2.andThen (T3.andThen .now)
 have T5:PySem.W.Looks M s1.heap (raisedInstance (.ref b)) (.ref b):=by
  unfold raisedInstance;exact T0.andThen ((PySem.W.looks_typeIn KX ty).andThen .now)
 refine wpAny_bind (wpAny_pure (wpAny_bind (wpAny_holding (T4.here ?_))));refine wpAny_bind (T1.here ?_);refine wpAny_bind (T5.here ?_);exists 1;unfold setFlight;refine wpAny_bind (wpAny_field eO rfl (x:=.none) rfl ?_);rw[if_neg %[|2]];exact wpAny_pure (wpAny_raiseNew_none hh q)
end
section
variable {X:Cx}{C cT:Addr}{o value:Expr}{ta tv:TE}{f:Str}{pos eF:Pos}
end
def Cx.caught(X:Cx)(a:Addr)(oe:Obj):Cx:={X with A:=X.A.mark (some (.ref a)),calm:=false,pn:=(a,oe)::X.pn,xe:=λ_ _=>False}
theorem Cx.Ok.caught{X:Cx}(ok:X.Ok)(a:Addr)(oe:Obj):(X.caught a oe).Ok:=
 #[ok.mod,ok.kind,ok.glob,ok.blt,ok.above,ok.inj,ok.has,ok.cab,%[|59],ok.frames,ok.stk,ok.exf,ok.bs,ok.bsz,ok.noex,ok.exfs,ok.funs,ok.frf]
section
variable {X:Cx}{pins:%[|19]}{σ:St}{H:Hp}{s:Shared}{a:Addr}{oe:Obj}
theorem Inv.caught(I:%[|4])(e:s.heap.get? a=some oe)(n:H a=none)(h1:a≠X.env.locals)(h2:a∉X.fs)(h3:∀v,oe.data≠.cell v):Inv (X.caught a oe) pins σ H s:=
 #[I.ok.caught a oe,I.os,I.bare,I.base,I.loc,I.cell,I.free,I.freeC,λp hp=>by
  rcases List.mem_cons.mp (show p∈(a,oe)::(X.pn++pins) from hp)with z|z
  ·subst z;exact#[e,n,h1,h2,h3]
  ·exact I.pin p z,I.hok,I.len]
theorem Inv.uncaught{ok:X.Ok}(I:Inv (X.caught a oe) pins σ H s):%[|16] H s:=
 #[ok,I.os,I.bare,I.base,I.loc,I.cell,I.free,I.freeC,λp hp=>I.pin p (show p∈(a,oe)::(X.pn++pins) from List.mem_cons_of_mem _ hp),I.hok,I.len]
end
theorem QO{K:PySem.W.Frag}(X:K.In h)(hD:PySem.W.typeIn K (.ref D)=some (.type "type"))(cD:(PySem.W.clsIn K D).isSome=true)(hB:PySem.W.mroIn K D (.type "BaseException")=some true)(hs:PySem.W.mroIn K C (.ref D)=some r)(he:h.get? a=some oe)(hc:oe.cls=.ref C):PySem.W.Looks M h (excMatches (.ref a) (.ref D)) r:=by
 have T0:PySem.W.Looks M h (typeOf (.ref a)) (.ref C):=hc ▸ (zC6 he).andThen .now;have T1:PySem.W.Looks M h (isInstance (.ref D) (.type "tuple")) false:=(PySem.W.looks_typeIn X hD).andThen (PySem.W.Looks.of_pure tc_notTuple)
 have T2:PySem.W.Looks M h (isType (.ref D)) true:=by
  obtain⟨cd,gq⟩:=Option.isSome_iff_exists.mp cD;unfold PySem.W.clsIn at gq;split at gq
  ·rename_i c1 d1 cd1 sl1 ho;unfold isType loadHead;exact (zC6 (X _ _ ho)).andThen .now
  ·cases gq
 have T3:PySem.W.Looks M h (isExcClass (.ref D)) true:=by
  unfold isExcClass;exact T2.andThen (zDG X hB)
 have T4:=zDG (M:=M) X hs;unfold excMatches;refine T1.andThen ?_;simp only[zBP,if_false,pure_bind,List.forIn_cons,List.forIn_nil,bind_assoc];refine T3.andThen ?_;simp only[zCP,zBP,if_false,pure_bind];refine T0.andThen (T4.andThen ?_);cases r<;>simp<;>exact .now
def Cx.within(X:Cx)(pn:%[|19])(E:Value->Shared->Prop):Cx:={X with pn:=pn,xe:=E}
section
variable {X:Cx}{pins:%[|19]}{σ:St}{H:Hp}{s:Shared}
theorem Inv.within(I:%[|4])(E:Value->Shared->Prop):Inv (X.within (X.pn++pins) E) [] σ H s:=
 #[#[I.ok.mod,I.ok.kind,I.ok.glob,I.ok.blt,I.ok.above,I.ok.inj,I.ok.has,I.ok.cab,I.ok.hd,I.ok.frames,I.ok.stk,I.ok.exf,I.ok.bs,I.ok.bsz,I.ok.noex,I.ok.exfs,I.ok.funs,I.ok.frf],I.os,I.bare,I.base,I.loc,I.cell,I.free,I.freeC,
  λp hp=>I.pin p (by rw[zA6]at hp;exact hp),I.hok,I.len]
theorem Inv.out(ok:X.Ok)(I:Inv (X.within (X.pn++pins) E) ki σ H s):%[|16] H s:=
 #[ok,I.os,I.bare,I.base,I.loc,I.cell,I.free,I.freeC,λp hp=>I.pin p (zBM _ hp),I.hok,I.len]
theorem Inv.young(I:%[|4])(h:s.heap.objs.size<=b):(b∈X.ex\/X.s₀.heap.objs.size<=b)/\b≠X.env.locals/\(∀x c,X.env.cells.lookup x=some c->c≠b)/\∀p∈X.pn++pins,p.1≠b:=
 #[.inr (zAC I.sz h),zBO (zAN I.lt h),λx c e=>by
  obtain⟨v,o,ho,_⟩:=I.cell x c e
  exact zAI (zAN (zAF ho) h),λp hp=>zAI (zAN (zAF (I.pin p hp).1) h)]
end
section
variable {X:Cx}{C Dc:Addr}{i:Nat}{x n:Str}{np fS pos:Pos}{body f6:List Stmt}{b0:Stmt}{tb:XK->TS}{th:Addr->Obj->TS}
end
section
variable {X:Cx}{C cT:Addr}{e:Expr}{f:Str}{pos:Pos}{ta:TE}
end
theorem Zr{K:PySem.W.Frag}(hm:PySem.W.kitMeta T=true)(h:PySem.W.subIn K (.ref C) (.type T)=some b):PySem.W.kitOne K (.ref C) (.type T)=some b:=by
 unfold PySem.W.kitOne;rw[if_neg (show ¬((Value.ref C == Value.type T)=true) by intro z;cases beq_iff_eq.mp z)];show (if PySem.W.kitMeta T=true then _ else _)=_;rw[if_pos hm,h]
theorem Wo{K:PySem.W.Frag}(X:K.In h)(G:h.Ns N mg)(e:PySem.W.nsIn K N n=some none):mg n=none:=by
 obtain⟨o,es,ep,ho,hd,_,hf⟩:=G;unfold PySem.W.nsIn at e;split at e
 ·rename_i c d es2 n2 sl q;have z:=X _ _ q;rw[ho]at z;cases z;cases hd;split at e
  ·cases e
  ·rename_i he;rw[<-hf];unfold nsFind findBy;rw[<-Array.find?_toList,he];rfl
 ·cases e
section
variable {prog:Program}{w:World}{A:Around}{E:Value->Shared->Prop}{h:Heap}{g:Array GenState}{d:Drawn}{t:Nat}{os:OsState}
variable {nm q:Str}{C N:Addr}{bs bm:%[|6]}{iz:Bool}{sn:List Str}{sub:%[|6]}{ab:Bool}{jI:%[|17]}{dd:Option Addr}{k0 k1 k2 k3 k5:%[|14]}
theorem MQ(T:OwnTail h Lr bm)(hC:h.get? C=some (excClassObj nm q C N bs bm iz sn sub ab jI dd k0 k1 k2 k3 k5 "ValueError.__new__"))(hn:h.Ns N mN)(hi:mN "__init__"=none)(hu:us.length<=sizeLine)(k:∀h',(∀b o,h.get? b=some o->h'.get? b=some o)->h'.get? (h.objs.size+1)=some (PM C (h.objs.size+2) none)->Q (.done (.ret (.ref (h.objs.size+1)))) #[h',g,d,t,os]):
  wpAny %[|33] A2 (Builtin.«type.__call__» #[.ref C::us,[]]) Q E #[h,g,d,t,os]:=by
 have VF:=PySem.F.excBase_ValueError
 repeat (first|with_reducible refine wpAny_madeBy_exc hC ?_|with_reducible refine wpAny_loadPart_at hC ?_|wp_step)
 refine codeAny_call_builtin_code (zCT _ VF.quiet) (wpAny_check_new_subT VF T hC (codeAny_exc_new_subT VF T hC ?_ hu));show wpAny _ _ _ _ _ _;have kk:∀b o,h.get? b=some o->((h.push {cls:=.type "tuple",data:=.seq us.toArray}).push {cls:=.ref C,data:=.fields #v[.ref h.objs.size,.none,.none,.none,.bool false,.none]}).get? b=some o:=λb o e=>Heap.get?_push_of_some _ %[e|120]
 have hE:((h.push {cls:=.type "tuple",data:=.seq us.toArray}).push {cls:=.ref C,data:=.fields #v[.ref h.objs.size,.none,.none,.none,.bool false,.none]}).get? (h.objs.size+1)=some {cls:=.ref C,data:=.fields #v[.ref h.objs.size,.none,.none,.none,.bool false,.none]}:=by heap_get
 have hself:(Value.ref C::bm).contains (.ref C)=true:=by simp
 have hC2:=kk _ _ hC;have T2:=T.keeps kk;unfold isInstance
 repeat (first|with_reducible refine wpAny_loadPart_at hE ?_|(with_reducible refine wpAny_isSubtype_exc hC2 ?_;rw[hself])|wp_step)
 show wpAny _ _ (typeLookup (.ref C) _) _ _ _;refine wpAny_typeLookup_tail hC2 (hn.keeps kk) T2 VF.mroIs VF.init.lookup ?_;rw[hi];refine wpAny_holding (wpAny_bind (wpAny_of_eq (VF.init.bind _) (wpAny_bind (wpAny_call (codeAny_call_builtin VF.init.plain VF.initEntry (wpAny_check_init_subT VF T2 hC2 hE rfl ?_))))))
 wp_walk
 refine k _ (λb o hb=>?_) ?_
 ·have lt:=zAF hb;rw[Heap.get?_update_other _ _ (zBO (zA2 lt))];exact Heap.get?_push_of_some _ (kk b o hb)
 ·rw[Heap.get?_update_self _ (Heap.get?_push_of_some (h:=_) _ hE) rfl];simp only[zAU];rfl
theorem Rq(T:OwnTail h Lr bm)(hC:h.get? C=some (excClassObj nm q C N bs bm iz sn sub ab jI dd k0 k1 k2 k3 k5 "ValueError.__new__"))(hn:h.Ns N mN)(hi:mN "__init__"=none)(hu:us.length<=sizeLine)(k:∀h',(∀b o,h.get? b=some o->h'.get? b=some o)->h'.get? (h.objs.size+1)=some (PM C (h.objs.size+2) none)->Q (.ref (h.objs.size+1)) #[h',g,d,t,os]):
  wpAny %[|33] A (call (.ref C) us) Q E #[h,g,d,t,os]:=by
 have z1:=tc_lookup;have z2:=tc_bind (.ref C);have z3:(#[h,g,d,t,os]:Shared).TypeIs (.ref C) "type":=#[_,hC,rfl];refine wpAny_call (codeAny_of_tree ?_);show wpAny _ _ (callAny (.ref C) #[us,[]]) _ _ _
 repeat (any_goals (first|assumption|with_reducible refine wpAny_loadPart_at hC ?_|wp_step))
 exact#[rfl,codeAny_call_builtin_at (zCT _ %[|35]) entry_typeCall (wpAny_check_type_call_sub hC (MQ T hC hn hi hu k))]
end
def Vi(C:Addr)(Ex:XK)(t:TA):TS:=λ_ σ H=>t σ H λ_ H1=>Ex (.ref C) none H1
section
variable {X:Cx}{C cT:Addr}{Ex:XK}{x:Str}{p pos dC:Pos}{e:Expr}{es:%[|22]}{t:TA}
theorem Br(hx:ZN X Ex)(hc:X.calm=true)(M:YM X.K C cT none)(at_:XAt X.K C cT)(ty:PySem.W.typeIn X.K (.ref C)=some (.type "type"))(hg:Gl X x)(hm:X.mg x=some (.ref C))(ha:PA X (e::es) t)(dj:(e::es).length<=1000:=by decide)(fP:%[|48]=false:=by decide)(he:starEach (e::es) X.env=%[|52]::starEach es X.env:=by rfl)(dE:(backTo dC (starEach es X.env)).any (·.1)=false:=by rfl)(hvl:∀σ H (Q:List V->Hp->Prop),t σ H Q->t σ H (λvs H1=>vs.length<=1000/\Q vs H1)):
  PS X (.Raise (some (.Call (.Name x p) (e::es) [] dC)) none pos) (Vi C Ex t):=by
 exists 7;rw[arm_exec_Raise];refine wpAny_bind (wpAny_standAt (MR (K:=X.K) at_ ty (I.ok.hd hc) ?_));refine wpAny_bind (AU (Q:=λv s1=>Fb λb tp dx=>Im (v=.ref b) (X.K.In s1.heap) (s1.heap.get? b=some (PM C tp dx)) (X.xe (.ref b) s1)) ?_ λv s1 q=>wpAny_bind (wpAny_standAt (wpAny_pure q)));refine wpAny_Call_Name_kw (Ey I hg hm ?_ fP);refine zCI (h₀:=X.base) I.ok.mod.kin M.kp (AU (ha dC pins s σ H _ I (hvl _ _ _ h)) λus s1 ⟨vs,H1,I1,r,hl,q⟩=>#[I1.kIn,?_]) he dE;show wpAny _ _ (call (.ref C) us) _ _ _;obtain⟨nm,q0,N,bs,iz,sn,sub,ab,jI,dd,k0,k1,k2,k3,k5,lC,oN,iN⟩:=M.cls;have KX:=I1.kIn;have nsN:=Heap.Ns.of_isNs (PySem.W.isNs_of_in KX oN);have hul:us.length<=sizeLine:=by rw[<-r.length];exact zA7 (An hl)
 obtain⟨hh,g,d,tk,os⟩:=s1;refine Rq (PySem.W.tail_of_in KX M.tail) (KX _ _ lC) nsN (Wo KX nsN iN) hul λh' kk e'=>?_
 have I2:%[|16] H1 #[h',g,d,tk,os]:=I1.kept (t':=tk) kk;refine#[_,_,none,rfl,I2.kIn,e',?_];exact hx pins σ H1 _ _ _ none _ _ I2 (I1.hok.fresh (zBA _)) e' #[rfl,rfl] (zAC I1.sz (zBA _)) q
end
abbrev Vo:=BJ->Addr->Option Addr->Hp->Prop
section
variable {X:Cx}{Dc:Addr}{i:Nat}{x n:Str}{np fS pos:Pos}{body f6:List Stmt}{b0:Stmt}{tb:XK->TS}{th:Addr->Obj->TS}{hs:List ExceptHandler}{tr:Vo}
end
section
variable {X:Cx}{C cT:Addr}
inductive YE(K:PySem.W.Frag)(x:V)(y:V)(H:Hp)(Q:VK):Prop|mk(e p:Addr)(xs:List V)(bs:List Bool)(_:x=.ref e)(_:y=.ref p)(_:SqL K H e [])(_:SqL K H p xs)(_:bs.length=xs.length)(_:(∀(i:Nat) v b,xs[i]? = some v->bs[i]? = some b->Cd λa zs=>BV (v=.ref a) (SqL K H a zs) (b=zs.isEmpty)))(_:Q (.bl (bs.any id)) H)
theorem RW(hu:X.A.units+9<cLine):Dy X (compareOp .In) (YE X.K):=by
 exists 2;obtain⟨e,p,xs,bs,rfl,rfl,he,hp,hl,hx,q⟩:=h;cases rx;cases ry;obtain⟨its,r,pl,hz⟩:=I.list hp;obtain⟨its0,r0,pl0,hz0⟩:=I.list he;cases r0;have lr:=r.length
 have at':∀(i:Nat)(u:Value),its[i]? = some u->∃b,bs[i]? = some b/\SeqAt.EqAt X.A.in1 s u (.ref e) b:=λi u hi=>by
  have gX:i<its.length:=%[hi|117].1;have hxi:xs[i]? = some xs[i]:=List.getElem?_eq_getElem %[|0];have iA:bs[i]? = some bs[i]:=List.getElem?_eq_getElem %[|0];obtain⟨u2,hu2,ru2⟩:=r.get hxi;rw[hi]at hu2;cases hu2;obtain⟨a,zs,ev,hq,eb⟩:=hx i _ _ hxi iA;rw[ev]at ru2;cases ru2;refine#[_,iA,?_];obtain⟨itz,rz,plz,_⟩:=I.list hq;rw[eb];by_cases hae:a=e
  ·subst hae
   have hz1:itz=[]:=by
    have h1:=plz.isList;have h2:=pl0.isList;obtain⟨o1,g1,_,n1,d1⟩:=h1;obtain⟨o2,g2,_,n2,d2⟩:=h2;rw[g1]at g2;cases g2;rw[d1]at d2
    cases itz with
    |nil=>rfl
    |cons c r=>cases d2
   subst hz1;cases rz;exact zB0 _
  ·refine zDK hae ?_
   cases rz with
   |nil=>exact zDO (e:=λ_=>true) plz.isList pl0.isList rfl (by show X.A.units+1<cLine;omega) (λj h1=>absurd h1 (zCJ _))
   |cons r1 r2=>exact SeqAt.RcAt.lists_lengths plz.isList pl0.isList %[|1] (by show X.A.units+1<cLine;omega)
 let f:Value->Bool:=λu=>(List.range its.length).any λi=>its[i]? == some u && bs[i]? == some true
 have uniq:∀(i j:Nat)(u:Value),its[i]? = some u->its[j]? = some u->bs[i]? = bs[j]? :=λi j u hi hj=>by
  have gX:i<its.length:=%[hi|117].1;have hjl:j<its.length:=%[hj|117].1;have hxi:xs[i]? = some xs[i]:=List.getElem?_eq_getElem %[|0];have iA:bs[i]? = some bs[i]:=List.getElem?_eq_getElem %[|0];have hxj:xs[j]? = some xs[j]:=List.getElem?_eq_getElem %[|0];have jJ:bs[j]? = some bs[j]:=List.getElem?_eq_getElem %[|0];obtain⟨u2,hu2,ru2⟩:=r.get hxi;obtain⟨u3,hu3,ru3⟩:=r.get hxj;rw[hi]at hu2;cases hu2;rw[hj]at hu3;cases hu3;obtain⟨a,zs,ev,hq,eb⟩:=hx i _ _ hxi iA;obtain⟨a2,zs2,ev2,hq2,eb2⟩:=hx j _ _ hxj jJ;rw[ev]at ru2;rw[ev2]at ru3;cases ru2;have ea:a=a2:=Value.ref.inj (show Value.ref a=Value.ref a2 from ru3);subst ea;rw[iA,jJ,eb,eb2];obtain⟨kj,rz1,p1,_⟩:=I.list hq;obtain⟨it2,rz2,p2,_⟩:=I.list hq2;obtain⟨o1,g1,_,n1,d1⟩:=p1.isList;obtain⟨o2,g2,_,n2,d2⟩:=p2.isList;rw[g1]at g2;cases g2;rw[d1]at d2;have eit:kj.toArray=it2.toArray:=by cases d2;rfl
  have eit':kj=it2:=by simpa using eit
  have l1:=rz1.length;have l2:=rz2.length;rw[eit']at l1
  cases zs with
  |nil=>cases zs2 with
   |nil=>rfl
   |cons c d=>simp at l1 l2;omega
  |cons c d=>cases zs2 with
   |nil=>simp at l1 l2;omega
   |cons c2 d2=>rfl
 have ff:∀(i:Nat)(u:Value)(b:Bool),its[i]? = some u->bs[i]? = some b->f u=b:=λi u b hi hb=>by
  have gX:i<its.length:=%[hi|117].1
  cases b with
  |true=>exact List.any_eq_true.mpr #[i,List.mem_range.mpr gX,by rw[hi,hb];simp]
  |false=>
   refine List.any_eq_false.mpr λj hj z=>?_
   rw[zAX]at z;have z1:its[j]? = some u:=eq_of_beq z.1;have z2:bs[j]? = some true:=eq_of_beq z.2;have:=uniq i j u hi z1;rw[hb,z2]at this;cases this
 refine SeqAt.in_listAt f pl.isList (λu hu=>?_) #[.bl _,H,I,rfl,?_]
 ·have hu':u∈its:=by simpa using hu
  obtain⟨i,hi⟩:=List.getElem?_of_mem hu';obtain⟨b,hb,eq⟩:=at' i u hi;rw[ff i u b hi hb]
  first|exact eq|exact eq.of_in1
 ·have ea:its.toArray.any f=bs.any id:=by
   rw[show its.toArray.any f=its.any f by simp,zA4,zCF,zCF];constructor
   ·rintro⟨u,hu,hf⟩;obtain⟨i,hi⟩:=List.getElem?_of_mem hu;obtain⟨b,hb,_⟩:=at' i u hi;rw[ff i u b hi hb]at hf;exact#[b,zAJ hb,hf]
   ·rintro⟨b,hb,hf⟩;obtain⟨i,hi⟩:=List.getElem?_of_mem hb;have gX:i<bs.length:=%[hi|117].1;have hii:its[i]? = some its[i]:=List.getElem?_eq_getElem %[|0];exact#[its[i],zAJ hii,by rw[ff i _ b hii hi];exact hf]
  rw[ea];exact q
end
section
variable {X:Cx}{Dc:Addr}{i:Nat}{x n:Str}{np fS pos:Pos}{body f6:List Stmt}{b0:Stmt}{tb:XK->TS}{th:Addr->Obj->TS}{hs:List ExceptHandler}{tr:Vo}{pins:%[|19]}{σ:St}{H:Hp}{s:Shared}
end
section
variable {X:Cx}{N:List Str}{scope:Scope}{cl:List (Str×Addr)}{js:List (%[|34])}{dy tg df:Expr}{dw:%[|22]}{rest:List Comprehension}{pos gb eN:Pos}{wi:TI}{g:CC->TG}{tb:CC->Addr->TS}{i:Nat}{y:Str}
theorem Ty{WB:CC->Value->TR}(dW:X.xe=EO)(hc:X.calm=true)(hi:PI X tg df wi)(hs:∀x,foldedSetIterable df X.env x=pure x)(gw:closureFor scope X.env=pure cl)(hk:scope.kind=.function)(fE:∀x∈scope.names,x.2=.local->scope.names.lookup x.1=some .local)(dY:∀x∈scope.names,x.2≠.cell)(fR:∀p∈cl,X.env.cells.lookup p.1=some p.2)(hcn:∀x,%[|85]->∃c,cl.lookup x=some c)(ix:Gd X N scope js)(hl:js.length=N.length)(ht:∀c it ac,HT %[|26] %[|80] 0 it ac tg (WB c ac))(hg:∀c,PG %[|26] tg (g c))(hb:∀c ac,PB %[|26] (WB c (.ref ac)) (tb c ac))(hN:X.N.Nodup)(hy:X.N[i]? = some y)(km:UD X.env.scope y)(kn:swapsWith %[|80] (some (.Name y eN)) gb.line X.env=pure true)(hf:X.fn y=true\/X.env.scope.names.lookup y=some .local):
  PS X (.Assign [.Name y eN] %[|80] gb) (Km (Ib wi js g tb) (Cr i)):=by
 exists 7;rw[exec_Assign_Name_used _ _ _ _ kn];refine wpAny_bind (wpAny_standAt (wpAny_bind ?_));rw[arm_evalThenUse_ListComp];have h0:=hi pins s σ H _ I h;refine wpAny_bind (wpAny_mono (wpAny_comprehension_free (use:=some (assign (.Name y eN) X.env)) (Q:=λ_ s'=>SP X pins D .next s') (cl:=cl) rfl hs gw hk fE (AU h0 λv s1 h1=>AU h1 λeY s2 h2=>?_)) (λ_ s' hq=>wpAny_pure (wpAny_pure hq)) λ_ _ z=>z);obtain⟨it,fp,tn,J,H2,e,I2,T,gJ,f2,hR⟩:=h2;subst e;refine wpAny_newObj_type (wpAny_newFunctionEnv dY (by intro y hy;simp at hy) (λh₁ gx fF=>?_) hk);dsimp only at gx fF ⊢;exists 602;exists 603;exists 27
 have d7:=codeAny_mono (CV (X:=X.cmp N scope cl #[{s2 with heap:=s2.heap.push {cls:=.type "list",data:=.seq ([]:%[|6]).toArray}},upd H2 s2.heap.objs.size %[|9],fp]) (e:=.ListComp dy (#[tg,df,dw,0]::rest) scope pos) (d:=0) (acc:=.ref s2.heap.objs.size) (pins:=[]) dW hc (ht _ _ _) rfl rfl rfl T (hg _) (hb _ _) I4 iZ f4 hR') (R':=compPost %[|18] X.A X.xe (some (assign (.Name y eN) X.env)) (λ_ s'=>SP X pins D .next s') (.ref s2.heap.objs.size) %[|65].objs.size) (λr s' hq=>by
  obtain⟨rfl,σ',H',J',q⟩:=hq
  obtain⟨m,hn,_⟩:=id J'.loc
  have I5:%[|16] H' s':=I3.uncmp f3 J' (zBB _ _)
  have nL:%[|65].objs.size≠X.env.locals:=zBO I3.lt
  have nC:∀x c,X.env.cells.lookup x=some c->c≠%[|65].objs.size:=λx c e=>by
   obtain⟨v,o,ho,_⟩:=I3.cell x c e
   exact zAI (lt3 _ _ ho)
  show wpAny _ _ (assign (.Name y eN) X.env (.ref s2.heap.objs.size)) _ _ _
  refine wpAny_assign_Name (F8 I5 hN hy km (v:=.ref s2.heap.objs.size) rfl (λs6 I6 ⟨a,sb,ha⟩=>?_) hf)
  have na:%[|65].objs.size≠a:=by
   rcases ha with z|z
   ·rw[z];exact nL
   ·exact zB (nC _ _ z)
  refine#[m,hn.sameBut sb na,λh7 sb7=>?_]
  refine#[_,H',I6.turned (t':=s6.toks) (it:=%[|65].objs.size) (λb ob nb e=>(sb7.2 b nb).trans e) J'.free nL (.inr (zAC I3.sz (zAA _))) nC (λp hp=>zAI (lt3 _ _ (I3.pin p hp).1)),q])
 exists 26
variable {d5 di:Expr}{dA:%[|22]}{gS:CC->TI}{g1:CC->TG}{tc tc1:CC->TT}{te:CC->TE}
theorem D6(hN:X.N.Nodup)(hy:X.N[i]? = some y)(km:UD X.env.scope y)(h:A1D X N scope cl js)(hi:PI X tg df wi)(hg:∀c,PG %[|26] tg (g c))(jF:∀c,Qf %[|26] dw (tc c))(he:∀c,PE %[|26] dy (te c))(dW:X.xe=EO:=by rfl)(hc:X.calm=true:=by rfl)(hs:∀x,foldedSetIterable df X.env x=pure x:=by intro _;rfl)(kn:swapsWith %[|91] (some (.Name y eN)) gb.line X.env=pure true:=by rfl)(hf:X.fn y=true\/X.env.scope.names.lookup y=some .local:=by first | exact .inl rfl | exact .inr rfl):
  PS X (.Assign [.Name y eN] %[|91] gb) (Km (Ib wi js g λc ac=>Du (tc c) (Dm ac (te c))) (Cr i)):=
 Ty (WB:=λc ac=>ET %[|26] dw dy ac) dW hc hi hs h.clos h.kind h.names h.cell h.ccl h.hcn h.shr h.len (λc it ac=>Nf) hg (λc ac=>GQ dW (jF c) (he c)) hN hy km kn hf
end
abbrev Up(xs:Array Nat):Prop:=xs.toList.Pairwise (· < ·)
theorem Up.lt(u:Up xs){i j:Nat}{a b:Nat}(h:i<j)(ha:xs[i]? = some a)(hb:xs[j]? = some b):a<b:=by
 have ha':xs.toList[i]? = some a:=by simpa using ha
 have hb':xs.toList[j]? = some b:=by simpa using hb
 obtain⟨h1,e1⟩:=List.getElem?_eq_some_iff.mp ha';obtain⟨h2,e2⟩:=List.getElem?_eq_some_iff.mp hb';have:=List.pairwise_iff_getElem.mp u i j h1 h2 h;omega
structure bt(xs:Array Nat)(j p:Nat):Prop where
 le:p<=xs.size
 lo:∀i a,i<p->xs[i]? = some a->a<j
 hi:∀i a,p<=i->xs[i]? = some a->j<=a
theorem Hc{xs:Array Nat}(u:Up xs)(j:Nat):∀(fuel lo hi:Nat),hi-lo<=fuel->lo<=hi->hi<=xs.size->(∀i a,i<lo->xs[i]? = some a->a<j)->(∀i a,hi<=i->xs[i]? = some a->j<=a)->
  bt xs j (SetTable.below.go xs j fuel lo hi)
 |0,lo,hi,h1,h2,h3,h4,h5=>by
  have e:lo=hi:=by omega
  subst e;exact#[h3,h4,h5]
 |fuel+1,lo,hi,h1,h2,h3,h4,h5=>by
  unfold SetTable.below.go;by_cases dQ:lo<hi
  ·rw[if_pos dQ];have hm:(lo+hi) / 2<xs.size:=by omega
   have eg:xs[(lo+hi) / 2]? = some xs[(lo+hi) / 2]:=Array.getElem?_eq_getElem hm;have ed:xs.getD ((lo+hi) / 2) j=xs[(lo+hi) / 2]:=by simp[Array.getD,hm]
   show bt xs j (if xs.getD ((lo+hi) / 2) j<j then _ else _);rw[ed];split
   ·rename_i hl;refine Hc u j fuel ((lo+hi) / 2+1) hi %[|0] %[|0] h3 (λi a jh ha=>?_) h5;by_cases e:i=(lo+hi) / 2
    ·subst e;rw[eg]at ha;cases ha;exact hl
    ·exact zB1 (u.lt (show i<(lo+hi) / 2 by omega) ha eg) hl
   ·rename_i hl;refine Hc u j fuel lo ((lo+hi) / 2) %[|0] %[|0] %[|0] h4 (λi a jh ha=>?_);by_cases e:i=(lo+hi) / 2
    ·subst e;rw[eg]at ha;cases ha;omega
    ·have:=u.lt (show (lo+hi) / 2<i by omega) eg ha;omega
  ·rw[if_neg dQ];have e:lo=hi:=by omega
   subst e;exact#[h3,h4,h5]
theorem Hx(u:Up xs)(j:Nat):bt xs j (SetTable.below xs j):=
 Hc u j xs.size 0 xs.size %[|0] (zA5 _) (zAA _) (λi a h=>absurd h (zCJ _)) λi a h e=>by
  have:=(Array.getElem?_eq_some_iff.mp e).1;omega
theorem NS(u:Up xs)(h:xs[i]? = some a):SetTable.below xs (a+1)=i+1:=by
 have b:=Hx u (a+1);have hi:i<xs.size:=(Array.getElem?_eq_some_iff.mp h).1
 have h1:i<SetTable.below xs (a+1):=by
  rcases zDP i (SetTable.below xs (a+1))with q|q
  ·exact q
  ·have:=b.hi i a q h;omega
 rcases zDP (i+1) (SetTable.below xs (a+1))with q|q
 ·have hs:i+1<xs.size:=zAN q b.le;have e2:=Array.getElem?_eq_getElem hs;have:=b.lo (i+1) _ q e2;have:=u.lt (zB5 i) h e2;omega
 ·omega
theorem MP(u:Up xs):SetTable.below xs 0=0:=by
 have b:=Hx u 0;rcases Nat.eq_zero_or_pos (SetTable.below xs 0)with q|q
 ·exact q
 ·have hs:0<xs.size:=zAN q b.le;have:=b.lo 0 _ q (Array.getElem?_eq_getElem hs);omega
theorem QP(u:Up xs)(h:xs[SetTable.below xs j]?≠some j):Up (SetTable.insertAt xs (SetTable.below xs j) j):=by
 have b:=Hx u j;generalize SetTable.below xs j=p at b h;unfold Up;rw[SetTable.toList_insertAt]
 have e1:∀x∈xs.toList.take p,x<j:=λx hx=>by
  obtain⟨i,hi⟩:=List.mem_iff_getElem?.mp hx;rw[List.getElem?_take]at hi;split at hi
  ·rename_i dQ;exact b.lo i x dQ (by simpa using hi)
  ·cases hi
 have e2:∀x∈xs.toList.drop p,j<x:=λx hx=>by
  obtain⟨i,hi⟩:=List.mem_iff_getElem?.mp hx;rw[List.getElem?_drop]at hi;have jh:xs[p+i]? = some x:=by simpa using hi
  have:=b.hi (p+i) x (Nat.le_add_right _ _) jh
  have ne:x≠j:=λe=>by
   subst e
   cases i with
   |zero=>exact h jh
   |succ i=>
    have hp:p<xs.size:=by
     have:=(Array.getElem?_eq_some_iff.mp jh).1;omega
    have eg:=Array.getElem?_eq_getElem hp;have h3:=b.hi p _ (zAA _) eg;have h4:=u.lt (show p<p+(i+1) by omega) eg jh;omega
  omega
 have u':(xs.toList.take p++xs.toList.drop p).Pairwise (· < ·):=by rw[zC];exact u
 obtain⟨p1,p2,p3⟩:=List.pairwise_append.mp u';refine List.pairwise_append.mpr #[p1,List.pairwise_cons.mpr #[e2,p2],λx hx y hy=>?_];rcases List.mem_cons.mp hy with q|q
 ·rw[q];exact e1 x hx
 ·exact zB1 (e1 x hx) (e2 y q)
theorem SY(n:Nat):Up (Array.range n):=by
 unfold Up;rw[Array.toList_range];exact zC2
structure A0P(Cj:Bool)(t:SetTable):Prop where
 dum:t.dummies = #v[]
 led:t.led = !Cj
 up:Up t.place
structure Gr(Cj:Bool)(t:SetTable):Prop where
 led:t.led = !Cj
 up:Up t.place
theorem A0P.it{Cj:Bool}(h:A0P Cj t):Gr Cj t:=#[h.led,h.up]
theorem A0P.plain_off{Cj:Bool}(h:A0P Cj t):A0P Cj {t with plain:=false}:=#[h.dum,h.led,h.up]
theorem A0P.standIn{Cj:Bool}(h:A0P Cj t)(n:Nat):A0P Cj (t.standIn n):=#[rfl,h.led,SY n]
theorem A0P.orStandIn{Cj:Bool}(h:A0P Cj t)(n:Nat):A0P Cj (t.orStandIn n):=by
 unfold SetTable.orStandIn;split
 ·exact h
 ·exact h.standIn n
theorem A0P.fresh(Cj:Bool)(led:Bool)(e:led = !Cj):A0P Cj (.fresh 0 0 led):=#[rfl,e,List.Pairwise.nil]
theorem P7(j:Nat):SetTable.has #v[] j=false:=by
 unfold SetTable.has;simp
theorem Ik(t:SetTable)(p:SetTable.Probe):(t.advance p).dummy=p.dummy:=by
 unfold SetTable.advance;split
 ·rfl
 ·rfl
theorem LV{t:SetTable}(hd:t.dummies = #v[]){hashAt:Nat->Int}{h:Int}{j:Nat}{d:%[|34]}:∀(fuel:Nat)(p:SetTable.Probe),p.dummy=none->SetTable.probe.go t hashAt h fuel p=some (.empty j d)->d=none/\t.place[SetTable.below t.place j]?≠some j
 |0,_,_,e=>by cases e
 |fuel+1,p,hp,e=>by
  unfold SetTable.probe.go at e
  have hs:∀j,t.slot j=if t.place[SetTable.below t.place j]? == some j then .live (SetTable.below t.place j)else .empty:=λj=>by
   unfold SetTable.slot;rw[hd,P7];rfl
  rw[hs]at e;split at e
  ·rename_i hlive;split at hlive
   ·cases hlive
   ·rename_i dB;injection e with e
    injection e with e1 e2
    subst e1;refine#[by rw[<-e2,hp],λz=>dB (by rw[z];simp)]
  ·rename_i hlive;split at hlive<;>cases hlive
  ·split at e
   ·cases e
   ·exact LV hd fuel _ (by rw[Ik];exact hp) e
theorem A0P.layNew{Cj:Bool}{t:SetTable}(ok:A0P Cj t)(es:Array (Int×Value))(h:Int)(x:Value):A0P Cj (layNew t es h x).2.1:=by
 unfold PySem.layNew
 cases ef:t.freeSlot h with
 |none=>exact ok.standIn _
 |some sw=>
  obtain⟨slot,wd⟩:=sw;show A0P Cj ((t.put slot).1.orStandIn _);refine A0P.orStandIn ?_ _;unfold SetTable.freeSlot at ef;split at ef
  ·rename_i j dummy eq;have:=LV ok.dum _ _ rfl eq;obtain⟨rfl,dB⟩:=this;injection ef with ef
   injection ef with e1 e2
   have jK:j=slot:=e1;subst jK;unfold SetTable.put;refine#[?_,ok.led,QP ok.up dB];show (if SetTable.has t.dummies j then _ else t.dummies) = #v[];rw[ok.dum,P7];rfl
  ·cases ef
theorem A0P.relayAll{Cj:Bool}{t:SetTable}(ok:A0P Cj t)(es:Array (Int×Value))(gc:Nat):A0P Cj (relayAll t es gc).2.1:=by
 unfold PySem.relayAll
 cases er:t.relaid (es.map (·.1)) gc with
 |none=>exact ok.standIn _
 |some to=>
  obtain⟨t',order⟩:=to;dsimp only;split
  ·unfold SetTable.relaid SetTable.laid at er
   cases eo:SetTable.layClean (SetTable.sizeAbove gc-1) (es.map (·.1))with
   |none=>rw[eo]at er;cases er
   |some owner=>
    rw[eo]at er;injection er with er
    injection er with e1 e2
    subst e1;refine#[rfl,ok.led,?_];show (List.map (λx:Nat×Nat=>x.fst) (List.filterMap %[|96] (List.range (SetTable.sizeAbove gc-1+1)))).toArray.toList.Pairwise (· < ·);rw[zDH];rw[zDL];refine List.Pairwise.filterMap _ (R:=(· < ·)) ?_ zC2;intro a a' dQ b hb b' hb'
    have f:∀{a b:Nat},Option.map (λx:Nat×Nat=>x.1) (Option.map (λx=>(a,x)) (owner.getD a none))=some b->b=a:=λ{a b} e=>by
     cases q:owner.getD a none with
     |none=>rw[q]at e;cases e
     |some y=>rw[q]at e;injection e with e;exact e.symm
    rw[f hb,f hb'];exact dQ
  ·exact ok.standIn _
def Bb(e:Int×Value):Int:=match e.2 with|.int k _=>k|_=>0
def A0X(l:List (Int×Value)):Prop:=∀e∈l,e.1=hashInt (Bb e)/\∃t,e.2=.int (Bb e) t
abbrev Cj(w:World):Bool:=w.params.followText "set-order"
inductive A0I(w:World)(h:Heap)(a:Addr)(ks:List Int):Prop where
 |mk (o es ep t) (_:h.get? a=some o) (_:o.ExactSet) (_:o.data=.set es ep t) (_:A0X es.toList) (_:es.toList.map Bb=ks) (_:ks.Nodup) (_:ks.length<2000) (_:A0P (Cj w) t) (_:t.fits es.size=true)
theorem A0I.keep(x:A0I w h a ks)(k:∀o,h.get? a=some o->h'.get? a=some o):A0I w h' a ks:=by
 cases x with|mk o es ep t ho=>exact#[o,es,ep,t,k o ho,‹_›,‹_›,‹_›,‹_›,‹_›,‹_›,‹_›,‹_›]
inductive A0G(w:World)(h:Heap)(a:Addr)(ks:List Int):Prop where
 |mk (o es ep t) (_:h.get? a=some o) (_:o.ExactSet) (_:o.data=.set es ep t) (_:A0X es.toList) (_:es.toList.map Bb=ks) (_:ks.Nodup) (_:ks.length<2000) (_:Gr (Cj w) t) (_:t.fits es.size=true)
theorem A0I.it(x:A0I w h a ks):A0G w h a ks:=by
 obtain⟨o,es,ep,t,h1,h2,h3,h4,h5,h6,h7,h8,h9⟩:=x;exact#[o,es,ep,t,h1,h2,h3,h4,h5,h6,h7,h8.it,h9]
theorem A0G.keep(x:A0G w h a ks)(k:∀o,h.get? a=some o->h'.get? a=some o):A0G w h' a ks:=by
 cases x with|mk o es ep t ho=>exact#[o,es,ep,t,k o ho,‹_›,‹_›,‹_›,‹_›,‹_›,‹_›,‹_›,‹_›]
theorem A0G.at_(x:A0G w h a ks):∃o,h.get? a=some o:=by cases x;exact#[_,‹_›]
theorem A0I.nd(x:A0I w h a ks):ks.Nodup:=by cases x;assumption
theorem A0G.nd(x:A0G w h a ks):ks.Nodup:=by cases x;assumption
section
variable {prog:Program}{w:World}{A:Around}{E:Value->Shared->Prop}{s:Shared}{a:Addr}{ks:List Int}{k:Int}{tk:Tok}
theorem A0X.elems(h:A0X l):ElemsOf (intKind prog w) l:=λe he=>by
 obtain⟨h1,t,h2⟩:=h e he;refine#[#[Bb e,?_,h1],?_]
 ·rw[h2];exact intKind_is _ _ _ _
 ·rw[h2];rfl
theorem A0X.is(h:A0X l)(he:e∈l):(intKind prog w).is j e.2=true↔j=Bb e:=by
 obtain⟨_,t,h2⟩:=h e he;constructor
 ·intro q;exact (intKind prog w).inj e.2 j (Bb e) q (by rw[h2];exact intKind_is _ _ _ _)
 ·rintro rfl;rw[h2];exact intKind_is _ _ _ _
theorem DE{es:Array (Int×Value)}(e:es.toList.map Bb=ks):es.size=ks.length:=by rw[<-e,List.length_map,zAL]
theorem E8{h:Heap}{o:Obj}{es dH:Array (Int×Value)}{ep:Nat}{t t':SetTable}(ho:h.get? a=some o)(fO:o.ExactSet)(hd:o.data=.set es ep t)(g:A0X dH.toList)(nd:(dH.toList.map Bb).Nodup)(hl:dH.size<2000)(ok:A0P (Cj w) t')(hf:t'.fits dH.size=true):
  (h.update a (Obj.putSet dH t')).get? a=some {o with data:=.set dH (ep+1) t' }/\A0I w (h.update a (Obj.putSet dH t')) a (dH.toList.map Bb):=by
 have hg:(h.update a (Obj.putSet dH t')).get? a=some {o with data:=.set dH (ep+1) t' }:=by
  have:=Heap.get?_update_self (Obj.putSet dH t') ho (by rw[putSet_of dH t' hd];rfl);rw[putSet_of dH t' hd]at this;exact this
 exact#[hg,_,dH,ep+1,t',hg,fO,rfl,g,rfl,nd,by rw[List.length_map,zAL];exact hl,ok,hf]
theorem C6(h:n<2000):n<scanBound:=by unfold scanBound;omega
theorem KW{g:Bool->Sem Unit}(hg:∀(b:Bool) (s₁:Shared) (Q':Unit->Shared->Prop),Q' () s₁->%[|31] (g b) Q' E s₁){ep:Nat}(ho:s.heap.get? a=some o)(fO:o.ExactSet)(hd:o.data=.set es ep t)(g1:A0X eT.toList)(nd:(eT.toList.map Bb).Nodup)(hl:eT.size<2000)(ok:A0P (Cj w) t2)(hf:t2.fits eT.size=true){gy:Bool}(h:∀h' eI,Heap.SameBut a s.heap h'->A0I w h' a eI->eI.Perm (eT.toList.map Bb)->R (some true) {s with heap:=h' }):
  wpAny %[|33] A (do
    storeSet a eT t2
    if (!gy && t2.tooFull)=true then do
      g (relayAll t2 eT (SetTable.grown eT.size)).2.2
      storeSet a (relayAll t2 eT (SetTable.grown eT.size)).1 (relayAll t2 eT (SetTable.grown eT.size)).2.1
      pure (some true)
     else pure (some true)) R E s:=by
 refine wpAny_bind (wpAny_storeSet_of ho hd ?_ (fits_of_scanBound (C6 hl)));obtain⟨gz,iB⟩:=E8 (w:=w) ho fO hd g1 nd hl ok hf;have hsb1:=zAT s.heap a (Obj.putSet eT t2);split
 ·have hp:=relayAll_perm t2 eT (SetTable.grown eT.size);have eP:=relayAll_fits t2 eT (SetTable.grown eT.size);have okr:=ok.relayAll eT (SetTable.grown eT.size);generalize hRl:relayAll t2 eT (SetTable.grown eT.size)=Rl at hp eP okr ⊢;obtain⟨es2,t3,gave2⟩:=Rl;dsimp only at hp eP okr ⊢;have hsz:es2.size=eT.size:=by rw[<-zAL,hp.length_eq,zAL]
  have fg:es2.size<2000:=by rw[hsz];exact hl
  have g2:A0X es2.toList:=λe he=>g1 e (hp.mem_iff.mp he)
  refine wpAny_bind (hg _ _ _ ?_);refine wpAny_bind (wpAny_storeSet_of gz rfl ?_ (fits_of_scanBound (C6 fg)));obtain⟨_,gd⟩:=E8 (w:=w) gz fO rfl g2 ((hp.map Bb).nodup_iff.mpr nd) fg okr eP;exact wpAny_pure (h _ _ (hsb1.trans (zAT _ a _)) gd (hp.map Bb))
 ·exact wpAny_pure (h _ _ hsb1 iB (zBS _))
theorem GP(hS:A0I w s.heap a ks)(i0:ks.length+1<2000)(h:∀h' eI,Heap.SameBut a s.heap h'->A0I w h' a eI->(∀j,j∈eI↔j∈ks\/j=k)->eI.length<=ks.length+1->Q (!decide (k∈ks)) {s with heap:=h' }):
  wpAny %[|33] A (setAddHashed a (.int k tk) (hashInt k)) Q E s:=by
 obtain⟨o,es,ep,t,ho,fO,hd,hg,hk,nd,hl,ok,hf⟩:=id hS;have hsz:=DE hk;have iW:(intKind prog w).is k (.int k tk)=true:=intKind_is _ _ _ _;unfold setAddHashed setAddHashedIn;refine wpAny_holding (wpAny_bind (wpAny_setState_of ho hd hf ?_));dsimp only;rw[byScan_of (knd:=intKind prog w) rfl (by rw[hsz];exact C6 hl) hg.elems];simp only[↓reduceIte];unfold setAddByScan;exists 1;refine wpAny_bind (wpAny_rule ?_);refine wpAny_bind (wpAny_setScan_of (knd:=intKind prog w) iW ho hd hf hg.elems ?_)
 cases hr:List.findIdx? (λe=>(intKind prog w).is k e.2) es.toList with
 |some j=>
  dsimp only;obtain⟨hj,hpj,_⟩:=List.findIdx?_eq_some_iff_getElem.mp hr
  have dP:k∈ks:=by
   rw[<-hk,(hg.is (zCM hj)).mp hpj];exact zA9 (zCM hj)
  refine wpAny_pure %[|38];have e:s={s with heap:=s.heap}:=by cases s;rfl
  have:=h s.heap ks (zBB a s.heap) hS (λj=>#[.inl,λz=>z.elim id λz=>z ▸ dP]) (zBA _);rw[decide_eq_true dP]at this;rw[e];exact this
 |none=>
  dsimp only
  have dP:k∉ks:=λz=>by
   rw[<-hk]at z;obtain⟨e,he,rfl⟩:=List.mem_map.mp z;have:=List.findIdx?_eq_none_iff.mp hr e he;rw[(hg.is he).mpr rfl]at this;cases this
  have hgw:∀(b:Bool){s₁:Shared}{Q':Unit->Shared->Prop},Q' () s₁->%[|31] (match b with|true=>rule "set.scan.the-table-gave-way" |false=>pure ()) Q' E s₁:=
   λb s₁ Q' hq=>by cases b<;>first|exact wpAny_pure hq|exact wpAny_rule hq
  have gA:=layNew_perm t es (hashInt k) (.int k tk);have gB:=layNew_fits t es (hashInt k) (.int k tk);have i4:=ok.layNew es (hashInt k) (.int k tk);generalize hL:layNew t es (hashInt k) (.int k tk)=L at gA gB i4;have hL':layNew t es ((intKind prog w).hash k) (.int k tk)=L:=hL;show wpAny %[|33] A _ _ E s;obtain⟨eT,t1,gy,gave⟩:=L;simp only[hL];dsimp only at gA gB i4 ⊢;rw[Array.toList_push]at gA
  have fZ:A0X eT.toList:=λe he=>by
   rcases List.mem_append.mp (gA.mem_iff.mp he)with z|z
   ·exact hg e z
   ·rw[List.mem_singleton.mp z];exact#[rfl,tk,rfl]
  have hpk:(eT.toList.map Bb).Perm (ks++[k]):=by
   have:=gA.map Bb;rw[List.map_append,hk]at this;exact this
  have nd1:(eT.toList.map Bb).Nodup:=hpk.nodup_iff.mpr (List.nodup_append.mpr #[nd,List.nodup_cons.mpr #[by simp,zBI],λx hx y hy=>by rw[List.mem_singleton.mp hy];intro z;subst z;exact dP hx])
  have eC:eT.size<2000:=by
   have:=hpk.length_eq;rw[List.length_map,zAL,zA]at this;rw[this];exact i0
  refine wpAny_bind (hgw _ ?_)
  have hend:∀h' eI,Heap.SameBut a s.heap h'->A0I w h' a eI->eI.Perm (eT.toList.map Bb)->Q true {s with heap:=h' }:=by
   intro h' eI fe dX eJ;have hq:=eJ.trans hpk;have:=h h' eI fe dX (λj=>by rw[hq.mem_iff,zDA,zBZ]) (by rw[hq.length_eq,zA];exact zAA _);rw[decide_eq_false dP]at this;exact this
  split
  ·refine wpAny_bind ?_;rw[hashByValue_scannable 8 (x:=.int k tk) rfl];exists 5;refine KW ?_ ho fO hd fZ nd1 eC ?_ ?_ ?_
   ·intro b s₁ Q' hq;cases b<;>first|exact wpAny_pure hq|exact wpAny_rule hq
   ·split
    ·exact i4
    ·exact i4.plain_off
   ·split
    ·exact gB
    ·exact SetTable.fits_plain_off gB
   ·intro h' eI fe dX eJ;dsimp only;exact wpAny_pure (hend h' eI fe dX eJ)
  ·refine wpAny_bind %[|38];simp only[↓reduceIte];refine KW ?_ ho fO hd fZ nd1 eC i4 gB ?_
   ·intro b s₁ Q' hq;cases b<;>first|exact wpAny_pure hq|exact wpAny_rule hq
   ·intro h' eI fe dX eJ;dsimp only;exact wpAny_pure (hend h' eI fe dX eJ)
end
abbrev Bw(w:World):Obj:={cls:=.type "set",dict:=none,data:=.set #v[] 0 (.fresh 0 0 (!Cj w))}
theorem A2B{w:World}{h:Heap}:A0I w (h.push (Bw w)) h.objs.size []:=
 #[_,#v[],0,_,Heap.get?_push_size _ rfl,#[rfl,rfl,rfl],rfl,λe he=>absurd he %[|1],rfl,zBI,by decide,A0P.fresh _ _ rfl,rfl]
section
variable {prog:Program}{w:World}{A:Around}{E:Value->Shared->Prop}{s:Shared}{a:Addr}{ks:List Int}{k:Int}{tk:Tok}
theorem A0I.typeIs(hS:A0I w s.heap a ks):s.TypeIs (.ref a) "set":=let ⟨o,_,_,_,ho,hc,_,_,_,_,_,_,_⟩:=hS;#[o,ho,hc.1]
theorem A0I.noDict(hS:A0I w s.heap a ks):∀b,Value.ref a=.ref b->∃ob,s.heap.get? b=some ob/\ob.dict=none:=
 λb e=>by injection e with e;subst e;exact let ⟨o,_,_,_,ho,hc,_,_,_,_,_,_,_⟩:=hS;#[o,ho,hc.2.1]
theorem A0G.typeIs(hS:%[|42] a ks):s.TypeIs (.ref a) "set":=let ⟨o,_,_,_,ho,hc,_,_,_,_,_,_,_⟩:=hS;#[o,ho,hc.1]
theorem La(hv:vs=[]\/∃x,vs=[x])(h:Q₁ %[|46] {s with heap:=s.heap.push (Bw w)}):
  codeAny %[|33] A (.call (.builtin "set.__new__") #[.type "set"::vs,[]]) (wants Q₁ E) s:=by
 have hn:checkBuiltinCall "set.__new__" #[.type "set"::vs,[]]=pure ():=by
  rcases hv with rfl|⟨x,rfl⟩
  ·exact F.newCall_set_0
  ·exact F.newCall_set_1 x
 refine codeAny_of_tree ?_;show wpAny _ A.in1 (do checkBuiltinCall "set.__new__" #[.type "set"::vs,[]];again (.builtin "set.__new__" #[.type "set"::vs,[]])) _ _ s;refine wpAny_bind (wpAny_of_eq hn (wpAny_pure #[plainId_quiet F.plain_set_new _,codeAny_builtin F.entry_set_new ?_]));rw[zCE F.plain_set_new _];have i5:=sub_set_self;obtain⟨hp,g,d,tk,os⟩:=s;rcases hv with rfl|⟨x,rfl⟩
 all_goals
  unfold Builtin.«set.__new__» Builtin.Frozenset.newClass;dsimp only
  wp_walk
  refine wpAny_askSetting %[|38];dsimp only;simp only[newObj];refine wpAny_bind (wpAny_alloc %[|38]);exact wpAny_pure h
set_option maxHeartbeats 1000000 in
theorem S8(h:Q %[|46] {s with heap:=s.heap.push (Bw w)}):%[|31] (call (.type "set") []) Q E s:=by
 obtain⟨c,tl,hmro⟩:=F.called_set.mro;have hmade:=F.called_set.made;have i5:=F.called_set.sub;refine wpAny_call (codeAny_of_tree ?_);show wpAny _ _ (callAny (.type "set") _) _ _ _;refine wpAny_pure #[zCT _ %[|35],codeAny_builtin F.entry_type_call ?_];rw[Around.under_plain (weight_type_call_type "set" [] []) rfl];have h1:=F.called_set.notType;have h2:=F.called_set.canCreate;have hct:=F.typeCall_set_0;exists 18;refine codeAny_mono (La (E:=E) (.inl rfl) (Q₁:=λobj s₁=>obj=.ref s.heap.objs.size/\s₁={s with heap:=s.heap.push (Bw w)}) #[rfl,rfl]) λr s₁ hr=>?_
 cases r with
 |error e=>exact hr
 |ok fl=>
  cases fl with
  |ret obj=>
   obtain⟨rfl,rfl⟩:=hr;have hS:%[|49].get? s.heap.objs.size=some (Bw w):=Heap.get?_push_size _ rfl;have hT:Shared.TypeIs {s with heap:=s.heap.push (Bw w)} %[|46] "set":=#[_,hS,rfl];have hli:=F.called_set.init.lookup;have iA:=F.called_set.init.bind %[|46];exists 18;refine codeAny_mono (codeAny_call_builtin (R:=wants (λr s₂=>r=.none/\Q %[|46] s₂) E) F.called_set.init.plain F.entry_set_init (check_set_init hT ?_)) λr₂ s₂ hr₂=>?_
   ·unfold Builtin.«set.__init__» noKeywords
    wp_walk
    exact#[rfl,h]
   ·cases r₂ with
    |error e=>exact hr₂
    |ok fl₂=>
     cases fl₂ with
     |ret r=>
      obtain⟨rfl,hQ⟩:=hr₂;exists 18
     |_=>exact hr₂.elim
  |_=>exact hr.elim
theorem Lm(hS:A0I w s.heap a ks)(i0:ks.length+1<2000)(h:∀h' eI,Heap.SameBut a s.heap h'->A0I w h' a eI->(∀j,j∈eI↔j∈ks\/j=k)->eI.length<=ks.length+1->Q .none {s with heap:=h',toks:=s.toks+1}):
  wpAny %[|33] A (call (.builtin "set.add") [.ref a,.int k tk]) Q E s:=by
 refine wpAny_call_entry F.slot_set_add hS.typeIs F.entry_set_add ?_ (F.args_set_add_2 _ _);unfold Builtin.«set.add» Builtin.Frozenset.oneOther;simp only[List.isEmpty_nil,bind_assoc];unfold Builtin.Frozenset.addrOf setAdd;refine wpAny_bind %[|38]
 try dsimp only
 refine wpAny_bind %[|38]
 try dsimp only
 exists 1;refine wpAny_holding ?_;refine wpAny_bind ((intKind prog w).pyHash (k:=k) (intKind_is _ _ _ _) ?_);refine GP (s:={s with toks:=s.toks+1}) hS i0 λh' eI fe dX hm hl=>?_
 show wpAny _ _ (ret Value.none) _ _ _;exact wpAny_pure #[_,rfl,h h' eI fe dX hm hl]
end
theorem A0U:Slot "set_iterator" "__next__" "set_iterator.__next__":=
 .of (owner:="set_iterator") (n:="__next__") (by rw[typeLookup_type,builtinLookup_eq_fast];kernel_rfl) %[|35] %[|35] %[|35]
  (by first|exact .inl %[|35]|exact .inr %[|35]) (by rw[isSubtype_type];kernel_rfl)
theorem Dk:entryFor table "set_iterator.__next__"=some Builtin.«set_iterator.__next__»:=entryFor_of_tree (by kernel_rfl)
theorem DN(a:Value):argsOk "set_iterator.__next__" #[[a],[]]:=by unfold argsOk;kernel_rfl
theorem G0:entryFor table "set.__iter__"=some Builtin.«frozenset.__iter__»:=entryFor_alias (id':="frozenset.__iter__") (by kernel_rfl) rfl %[|35] (by kernel_rfl)
theorem DM:Slot "set_iterator" "__iter__" "set_iterator.__iter__":=
 .of (owner:="set_iterator") (n:="__iter__") (by rw[typeLookup_type,builtinLookup_eq_fast];kernel_rfl) %[|35] %[|35] %[|35]
  (by first|exact .inl %[|35]|exact .inr %[|35]) (by rw[isSubtype_type];kernel_rfl)
theorem FX:entryFor table "set_iterator.__iter__"=some Builtin.«dict_keyiterator.__iter__»:=entryFor_alias (id':="dict_keyiterator.__iter__") (by kernel_rfl) rfl %[|35] (by kernel_rfl)
theorem GH(a:Value):argsOk "set_iterator.__iter__" #[[a],[]]:=by unfold argsOk;kernel_rfl
theorem A2P:Slot "set" "__len__" "set.__len__":=
 .of (owner:="set") (n:="__len__") (by rw[typeLookup_type,builtinLookup_eq_fast];kernel_rfl) %[|35] %[|35] %[|35]
  (by first|exact .inl %[|35]|exact .inr %[|35]) (by rw[isSubtype_type];kernel_rfl)
inductive Qo(w:World)(a:Addr)(es:Array (Int×Value))(ep:Nat)(t:SetTable)(h:Heap):(Nat->Value)->%[|6]->Prop where
 |text:Cj w=true->Qo w a es ep t h (λ_=>rawInt 0) ((pickOrder (w.params.setOrder a ep) es).toList.map (·.2))
 |led:Cj w=false->(!t.plain && decide (es.size>1))=false->Qo w a es ep t h (λi=>rawInt (((if i=0 then 0 else t.place.getD (i-1) 0+1:Nat)):Int)) (es.toList.map (·.2))
 |drw (T:Addr) (o:Obj) (c:Nat) (ps:List Nat):Cj w=false->h.get? T=some o->o.data=.seq (ps.map λ(i:Nat)=>rawInt i).toArray c->(∀p∈ps,p<es.size)->Qo w a es ep t h (λ_=>.ref T) (ps.map λp=>(es.getD p (0,.none)).2)
inductive A1Q(h:Heap)(it a:Addr)(first:Value)(i n ep:Nat):Prop where
 |mk (o) (_:h.get? it=some o) (_:o.cls=.type "set_iterator") (_:o.data=.fields #v[first,rawInt i,.ref a,rawInt n,rawInt ep])
theorem A1Q.typeIs{s:Shared}{it a:Addr}{first:Value}{i n ep:Nat}(x:A1Q s.heap it a first i n ep):s.TypeIs (.ref it) "set_iterator":=let ⟨o,ho,hc,_⟩:=x;#[o,ho,hc]
section
variable {prog:Program}{w:World}{A:Around}{E:Value->Shared->Prop}{s:Shared}{a it:Addr}{o:Obj}{es:Array (Int×Value)}{ep i:Nat}{t:SetTable}{fst:Nat->Value}{fh:%[|6]}
theorem Oo(x:A1Q h it a first i n ep):A1Q ((h.update it (Obj.mapFields (·.setIfInBounds 0 f2))).update it (Obj.mapFields (·.setIfInBounds 1 (rawInt ((i:Int)+1))))) it a f2 (i+1) n ep:=by
 obtain⟨o,ho,hc,hd⟩:=x;have h1:=Heap.get?_update_self (Obj.mapFields (·.setIfInBounds 0 f2)) ho (zBY (zBD hd _));have eK:=zBD hd (·.setIfInBounds 0 f2);refine#[_,Heap.get?_update_self _ h1 (zBY (zBD eK _)),(zDM ..).trans ((zDM ..).trans hc),?_];rw[zBD eK];simp
theorem WC(x:A1Q h it a first i n ep):A1Q (h.update it (Obj.mapFields (·.setIfInBounds 1 (rawInt ((i:Int)+1))))) it a first (i+1) n ep:=by
 obtain⟨o,ho,hc,hd⟩:=x;refine#[_,Heap.get?_update_self _ ho (zBY (zBD hd _)),(zDM ..).trans hc,?_];rw[zBD hd];simp
theorem Lx(ho:s.heap.get? a=some o)(hd:o.data=.set es ep t)(ok:Gr (Cj w) t)(hf:t.fits es.size=true)(hb:Cj w=false)(hn:(!t.plain && decide (es.size>1))=false)(hs:slot=if i=0 then 0 else t.place.getD (i-1) 0+1)(hi:i<=es.size)(q:Q (match es[i]?,t.place[i]? with|some (_,x),some j=>some (x,j+1)|_,_=>none) s):%[|31] (setNext a slot i ep) Q E s:=by
 have dE:t.place.size=es.size:=by
  unfold SetTable.fits at hf;exact beq_iff_eq.mp (Bool.and_eq_true_iff.mp hf).1
 have hbel:SetTable.below t.place slot=i:=by
  rw[hs];split
  ·rename_i e;rw[e];exact MP ok.up
  ·rename_i e;have h1:i-1<t.place.size:=by omega
   have eg:=Array.getElem?_eq_getElem h1;have ed:t.place.getD (i-1) 0=t.place[i-1]:=by simp[Array.getD,h1]
   rw[ed,NS ok.up eg];omega
 unfold setNext setsByText;exists 606;show wpAny _ _ (if Cj w=true then _ else _) _ _ _;rw[hb,if_neg zAG];show wpAny _ _ (if (!t.plain && decide (es.size>1))=true then _ else _) _ _ _;rw[hn,if_neg zAG];exists 1;show wpAny _ _ (if (!t.led && !es.isEmpty)=true then _ else _) _ _ _;rw[ok.led,hb,if_neg %[|1]];exists 5;rw[hbel];exact wpAny_pure q
theorem Jo(ho:s.heap.get? a=some o)(hd:o.data=.set es ep t)(hf:t.fits es.size=true)(hb:Cj w=true)(q:Q (((pickOrder (w.params.setOrder a ep) es)[i]?).map λe=>(e.2,slot)) s):%[|31] (setNext a slot i ep) Q E s:=by
 unfold setNext setsByText;exists 606;show wpAny _ _ (if Cj w=true then _ else _) _ _ _;rw[hb,if_pos rfl];show wpAny _ _ (if (ep != ep)=true then _ else _) _ _ _;rw[if_neg %[|1]];exists 1;unfold setWalk setsByText;exists 606;show wpAny _ _ (if Cj w=true then _ else _) _ _ _;rw[hb,if_pos rfl];refine wpAny_bind (wpAny_askSetting ?_);exact wpAny_pure (wpAny_pure q)
theorem QA(ho:s.heap.get? a=some o)(hd:o.data=.set es ep t)(hf:t.fits es.size=true)(hp:es[p]? = some e)(q:Q e.2 s):%[|31] (setNextDrawn a p ep) Q E s:=by
 unfold setNextDrawn;refine wpAny_bind (wpAny_setState_of ho hd hf ?_);dsimp only;show wpAny _ _ (if (ep != ep)=true then _ else _) _ _ _;rw[if_neg %[|1]];simp only[hp];exact wpAny_pure q
theorem Ro(iK:A1Q s.heap it a (fst i) i es.size ep)(ho:s.heap.get? a=some o)(hd:o.data=.set es ep t)(ok:Gr (Cj w) t)(hf:t.fits es.size=true)(M:Qo w a es ep t s.heap fst fh)(hx:fh[i]? = some x)(hl:fh.length=es.size)(hQ:∀h',A1Q h' it a (fst (i+1)) (i+1) es.size ep->Heap.SameBut it s.heap h'->Q (some x) {s with heap:=h' }):%[|31] (pyNext (.ref it)) Q E s:=by
 obtain⟨oi,hoi,hci,hdi⟩:=id iK;have hix:i<es.size:=by rw[<-hl];exact %[hx|117].1
 exists 605
 cases M with
 |text hb=>
  rw[List.getElem?_map]at hx;obtain⟨e,he,rfl⟩:=Option.map_eq_some_iff.mp hx;have iy:(pickOrder (w.params.setOrder a ep) es)[i]? = some e:=by simpa using he
  refine wpAny_bind (Jo (i:=i) (ep:=ep) ho hd hf hb ?_);rw[iy];exists 22;refine wpAny_bind (wpAny_setField (gz _) (eK _) %[|1] (wpAny_pure #[e.2,rfl,wpAny_pure (hQ _ (Oo iK) ((zAT ..).trans (zAT ..)))]))
 |led hb hn=>
  rw[List.getElem?_map]at hx;obtain⟨e,he,rfl⟩:=Option.map_eq_some_iff.mp hx;have iy:es[i]? = some e:=by simpa using he
  have dE:t.place.size=es.size:=by
   unfold SetTable.fits at hf;exact beq_iff_eq.mp (Bool.and_eq_true_iff.mp hf).1
  have gY:i<t.place.size:=by omega
  have hp:t.place[i]? = some t.place[i]:=Array.getElem?_eq_getElem gY;have ed:t.place.getD i 0=t.place[i]:=by simp[Array.getD,gY]
  refine wpAny_bind (Lx (i:=i) (ep:=ep) ho hd ok hf hb hn rfl (zA7 hix) ?_);rw[iy,hp];exists 22;refine wpAny_bind (wpAny_setField (gz _) (eK _) %[|1] (wpAny_pure #[e.2,rfl,wpAny_pure (hQ _ ?_ ((zAT ..).trans (zAT ..)))]));have e2:rawInt (((if i+1=0 then 0 else t.place.getD (i+1-1) 0+1:Nat)):Int)=rawInt ((t.place[i]+1:Nat):Int):=by rw[if_neg %[|0],Nat.add_sub_cancel,ed]
  show A1Q _ it a (rawInt (((if i+1=0 then 0 else t.place.getD (i+1-1) 0+1:Nat)):Int)) (i+1) es.size ep;rw[e2];exact Oo iK
 |drw T oT c ps hb hT hdT jL=>
  rw[List.getElem?_map]at hx;obtain⟨p,hp,rfl⟩:=Option.map_eq_some_iff.mp hx;have hpe:p<es.size:=jL p (zAJ hp);have ee:es[p]? = some es[p]:=Array.getElem?_eq_getElem hpe;have ed:es.getD p (0,.none)=es[p]:=by simp[Array.getD,hpe]
  show wpAny _ _ (seqItems? (.ref T) >>= _) _ _ _;refine wpAny_bind (wpAny_seqItems hT hdT ?_);have hpi:((ps.map λ(i:Nat)=>rawInt i).toArray)[i]? = some (rawInt p):=by simp[hp]
  simp only[zBG,hpi];refine wpAny_bind (QA (p:=p) ho hd hf ee ?_);refine wpAny_bind (wpAny_setField hoi hdi %[|1] (wpAny_pure #[_,rfl,wpAny_pure ?_]));rw[ed]at hQ;exact hQ _ (WC iK) (zAT ..)
theorem Ue(hh:A.handled=none)(iK:A1Q s.heap it a (fst es.size) es.size es.size ep)(ho:s.heap.get? a=some o)(hd:o.data=.set es ep t)(ok:Gr (Cj w) t)(hf:t.fits es.size=true)(M:Qo w a es ep t s.heap fst fh)(hl:fh.length=es.size)(hQ:∀h',Heap.ExtBut it s.heap h'->Q none {s with heap:=h' }):%[|31] (pyNext (.ref it)) Q E s:=by
 obtain⟨oi,hoi,hci,hdi⟩:=id iK;exists 605
 cases M with
 |text hb=>
  have iy:(pickOrder (w.params.setOrder a ep) es)[es.size]? = none:=by
   rw[List.length_map,zAL]at hl;simp[hl]
  refine wpAny_bind (Jo (i:=es.size) (ep:=ep) ho hd hf hb ?_);rw[iy];exists 22;exists 601;exact wpAny_pure (hQ _ (((zAT ..).extBut.push _).push _))
 |led hb hn=>
  have iy:es[es.size]? = none:=by simp
  refine wpAny_bind (Lx (i:=es.size) (ep:=ep) ho hd ok hf hb hn rfl (zAA _) ?_);rw[iy];exists 22;exists 601;exact wpAny_pure (hQ _ (((zAT ..).extBut.push _).push _))
 |drw T oT c ps hb hT hdT jL=>
  rw[List.length_map]at hl;show wpAny _ _ (seqItems? (.ref T) >>= _) _ _ _;refine wpAny_bind (wpAny_seqItems hT hdT ?_);have hpi:((ps.map λ(i:Nat)=>rawInt i).toArray)[es.size]? = none:=by simp[hl]
  simp only[zBG,hpi];exists 22;refine wpAny_bind (wpAny_setField (gz _) (eK _) %[|1] ?_);exists 601;exact wpAny_pure (hQ _ ((((zAT ..).trans (zAT ..)).extBut.push _).push _))
end
theorem DI{α:Type}:∀(l:List α)(i:Nat)(h:i<l.length),(l[i]::l.eraseIdx i).Perm l
 |x::xs,0,_=>zBS _
 |x::xs,i+1,h=>by
  have h':i<xs.length:=zC3 h;exact (List.Perm.swap x xs[i] (xs.eraseIdx i)).trans (List.Perm.cons x (DI xs i h'))
theorem Iv{α:Type}(next:Nat->Nat):∀(fuel k:Nat)(left:List α)(out:Array α),fuel=left.length->(pickOrder.go next fuel k left out).toList.Perm (out.toList++left)
 |0,_,left,out,h=>by
  have e:left=[]:=List.length_eq_zero_iff.mp h.symm;subst e;unfold pickOrder.go;simp
 |fuel+1,k,left,out,h=>by
  unfold pickOrder.go;have hp:0<left.length:=by omega
  have hi:next k%left.length<left.length:=Nat.mod_lt _ hp;rw[List.getElem?_eq_getElem hi];have hl:fuel=(left.eraseIdx (next k%left.length)).length:=by rw[zDB,if_pos hi];omega
  refine (Iv next fuel (k+1) _ _ hl).trans ?_;rw[Array.toList_push,zB2];exact List.Perm.append_left _ (DI _ _ hi)
theorem DX{α:Type}(next:Nat->Nat)(xs:Array α):(pickOrder next xs).toList.Perm xs.toList:=by
 unfold pickOrder;have:=Iv next xs.size 0 xs.toList #v[] (zAL).symm
 simpa using this
section
variable {prog:Program}{w:World}{A:Around}{E:Value->Shared->Prop}{s:Shared}{a it T0:Addr}{o oT:Obj}{es:Array (Int×Value)}{ep i:Nat}{t:SetTable}{fst:Nat->Value}{fh:%[|6]}{ks:List Int}
theorem Kn(hn:n≠0)(h:∀i,i<n->Q i {s with drawn:=s.drawn.bump src}):wpAny M A (choose src n) Q E s:=
 λΓ p _=>#[hn,h _ (Nat.mod_lt _ (Nat.pos_of_ne_zero hn))]
theorem N1{α:Type}:∀n(xs:List α)s(Q:List α->Shared->Prop),xs.length=n->(∀ys d',ys.Perm xs->Q ys {s with drawn:=d' })->wpAny M A (drawOrder n xs) Q E s:=by
 intro n
 induction n with
 |zero=>
  intro xs s Q h q;have e:xs=[]:=List.length_eq_zero_iff.mp h;subst e;exact wpAny_pure (q [] s.drawn (zBS _))
 |succ n ih=>
  intro xs s Q h q
  cases xs with
  |nil=>exact absurd h (Nat.succ_ne_zero n).symm
  |cons x xs=>
   unfold drawOrder;refine wpAny_bind (Kn %[|1] λi hi=>?_);rw[List.getElem?_eq_getElem hi];have hl:((x::xs).eraseIdx i).length=n:=by rw[zDB,if_pos hi,h];rfl
   refine wpAny_bind (ih _ _ _ hl λys d' hp=>?_);exact wpAny_pure (q _ d' ((List.Perm.cons _ hp).trans (DI _ _ hi)))
structure aB(w:World)(s:Shared)(a:Addr)(ks:List Int)(h':Heap)(it T0:Addr)(o oT:Obj)(es:Array (Int×Value))(ep:Nat)(t:SetTable)(fst:Nat->Value)(fh:%[|6]):Prop where
 lo:s.heap.objs.size<=it
 kk:∀b o,s.heap.get? b=some o->h'.get? b=some o
 at':A1Q h' it a (fst 0) 0 es.size ep
 ho:h'.get? a=some o
 hd:o.data=.set es ep t
 ok:Gr (Cj w) t
 hf:t.fits es.size=true
 hT:h'.get? T0=some oT
 ne:T0≠it
 md:∀gU,gU.get? T0=some oT->Qo w a es ep t gU fst fh
 pm:fh.Perm (es.toList.map (·.2))
 eg:A0X es.toList
 ek:es.toList.map Bb=ks
 tl:T0=a\/s.heap.objs.size<=T0
theorem US(hS:%[|42] a ks)(hQ:∀h' d' it T0 o oT es ep t fst fh,aB w s a ks h' it T0 o oT es ep t fst fh->Q (.ref it) {s with heap:=h',drawn:=d' }):%[|31] (pyIter (.ref a)) Q E s:=by
 obtain⟨o,es,ep,t,ho,fO,hd,hg,hk,nd,hl,ok,hf⟩:=id hS;have hna:a<s.heap.objs.size:=zAF ho;refine wpAny_pyIter_slot hS.typeIs PySem.F.slot_set_iter (wpAny_call_entry PySem.F.slot_set_iter hS.typeIs G0 ?_ (PySem.F.args_set_iter_1 _));show wpAny _ _ (Builtin.Frozenset.sizeOf a >>= _) _ _ s;exists 1;unfold Builtin.Frozenset.sizeOf;refine wpAny_bind (wpAny_setEntries_of ho hd hf %[|38]);exists 1;unfold setDrawn setsByText;refine wpAny_bind (wpAny_setState_of ho hd hf ?_);dsimp only;refine wpAny_bind (wpAny_bind (wpAny_askSetting (wpAny_pure %[|38])));show wpAny _ _ (if (!Cj w && (!t.plain && decide (es.size>1)))=true then _ else _) _ _ _;by_cases hdr:(!Cj w && (!t.plain && decide (es.size>1)))=true
 ·rw[if_pos hdr]
  have hb:Cj w=false:=by
   cases q:Cj w with
   |false=>rfl
   |true=>rw[q]at hdr;cases hdr
  refine wpAny_bind (N1 _ _ _ _ (zCD) λps d' hp=>?_);refine wpAny_bind (wpAny_newTuple ?_ (by rw[List.length_map,hp.length_eq,zCD,DE hk];exact zA7 (zB1 hl %[|2])));have kk:∀b ob,s.heap.get? b=some ob->(s.heap.push {cls:=.type "tuple",data:=.seq (ps.map λ(i:Nat)=>rawInt i).toArray}).get? b=some ob:=λb ob e=>Heap.get?_push_of_some _ e
  exists 1;unfold setEpoch;refine wpAny_bind (wpAny_setState_of (kk _ _ ho) hd hf %[|38]);refine wpAny_bind (wpAny_newObj_type (wpAny_pure #[_,rfl,"set_iterator",_,#[_,Heap.get?_push_size _ rfl,rfl],A0U.lookup,?_]));refine hQ _ d' _ s.heap.objs.size o _ es ep t (λ_=>.ref s.heap.objs.size) _ #[?_,λb ob e=>Heap.get?_push_of_some _ (kk b ob e),#[_,Heap.get?_push_size _ rfl,rfl,rfl],Heap.get?_push_of_some _ (kk _ _ ho),hd,ok,hf,Heap.get?_push_of_some _ (Heap.get?_push_size _ rfl),?_,λgU e=>.drw _ _ _ ps hb e rfl ?_,?_,hg,hk,.inr (zAA _)]
  ·rw[zAU];exact zBA _
  ·rw[zAU];exact zAI (zB5 _)
  ·exactλp eJ=>List.mem_range.mp (hp.mem_iff.mp eJ)
  ·refine (hp.map _).trans ?_
   have e:(List.range es.size).map (λp=>(es.getD p (0,.none)).2)=es.toList.map (·.2):=by
    refine zC7 %[|1] λn h1 h2=>?_
    have hn:n<es.size:=by simpa using h1
    simp[Array.getD,hn]
   rw[e]
 ·rw[if_neg hdr];refine wpAny_bind %[|38];exists 1;unfold setEpoch;refine wpAny_bind (wpAny_setState_of ho hd hf %[|38]);refine wpAny_bind (wpAny_newObj_type (wpAny_pure #[_,rfl,"set_iterator",_,#[_,Heap.get?_push_size _ rfl,rfl],A0U.lookup,?_]));have kk:∀b ob,s.heap.get? b=some ob->(s.heap.push {cls:=.type "set_iterator",data:=.fields #v[rawInt 0,rawInt 0,.ref a,rawInt es.size,rawInt ep]}).get? b=some ob:=λb ob e=>Heap.get?_push_of_some _ e
  cases hb:Cj w with
  |true=>
   refine hQ _ s.drawn _ a o o es ep t (λ_=>rawInt 0) _ #[zAA _,kk,#[_,Heap.get?_push_size _ rfl,rfl,rfl],kk _ _ ho,hd,ok,hf,kk _ _ ho,zAI hna,λgU e=>.text hb,(DX _ _).map _,hg,hk,.inl rfl]
  |false=>
   rw[hb]at hdr;refine hQ _ s.drawn _ a o o es ep t (λi=>rawInt (((if i=0 then 0 else t.place.getD (i-1) 0+1:Nat)):Int)) _ #[zAA _,kk,#[_,Heap.get?_push_size _ rfl,rfl,rfl],kk _ _ ho,hd,ok,hf,kk _ _ ho,zAI hna,λgU e=>.led hb (by simpa using hdr),zBS _,hg,hk,.inl rfl]
theorem Uv(hh:A.handled=none)(I:aB w s0 a ks h0 it T0 o oT es ep t fst fh):Walks prog w A it [it,a,T0] [it] es.size (λi v=>fh[i]? = some v) (λi h=>A1Q h it a (fst i) i es.size ep/\h.get? a=some o/\h.get? T0=some oT):=by
 have hl:fh.length=es.size:=by rw[I.pm.length_eq,List.length_map,zAL]
 have na:a≠it:=λe=>by
  obtain⟨oi,h1,_,h3⟩:=I.at';subst e;rw[I.ho]at h1;cases h1;rw[I.hd]at h3;cases h3
 refine#[λb hb=>by simp at hb;simp[hb],λi h h' st k=>?_,λi s Q E hi st hQ=>?_,λs Q E st hQ=>?_,λi s Q E st hQ=>?_]
 ·obtain⟨⟨oi,h1,r,r2⟩,h2,h3⟩:=st;exact#[#[oi,k it %[|1] _ h1,r,r2],k a %[|1] _ h2,k T0 %[|1] _ h3]
 ·obtain⟨h1,h2,h3⟩:=st;have hx:fh[i]? = some fh[i]:=List.getElem?_eq_getElem %[|0];refine Ro h1 h2 I.hd I.ok I.hf (I.md _ h3) hx hl λh' it' sb=>?_
  exact hQ _ h' s.toks hx #[it',(sb.2 a na).trans h2,(sb.2 T0 I.ne).trans h3] λb ob hb e=>(sb.2 b (by simpa using hb)).trans e
 ·obtain⟨h1,h2,h3⟩:=st;refine Ue hh h1 h2 I.hd I.ok I.hf (I.md _ h3) hl λh' eb=>?_
  exact hQ h' s.toks λb ob hb e=>eb b ob (by simpa using hb) e
 ·obtain⟨h1,h2,h3⟩:=st;refine wpAny_pyIter_slot h1.typeIs DM (wpAny_call_entry DM h1.typeIs FX ?_ (GH _));exact wpAny_pure #[_,rfl,"set_iterator",_,h1.typeIs,A0U.lookup,hQ]
end
theorem S7{es:Array (Int×Value)}{fh:%[|6]}{ks:List Int}(pm:fh.Perm (es.toList.map (·.2)))(eg:A0X es.toList)(ek:es.toList.map Bb=ks):∃ns,IntsAre fh ns/\ns.Perm ks:=by
 let vk:Value->Int:=λv=>match v with|.int k _=>k|_=>0
 have fT:∀v∈fh,∃t,v=.int (vk v) t:=λv hv=>by
  obtain⟨e,he,rfl⟩:=List.mem_map.mp (pm.mem_iff.mp hv);obtain⟨_,t,h2⟩:=eg e he;exact#[t,h2]
 refine#[fh.map vk,?_,?_]
 ·clear pm
  induction fh with
  |nil=>exact .nil
  |cons v r ih=>
   obtain⟨t,e⟩:=fT v List.mem_cons_self;have:=ih λx hx=>fT x %[hx|116]
   rw[zAS];generalize vk v=k at e;subst e;exact .cons k t this
 ·refine (pm.map vk).trans ?_;rw[zA0,<-ek];exact zBS _
section
variable {prog:Program}{w:World}{A:Around}{E:Value->Shared->Prop}{s:Shared}{a:Addr}{ks:List Int}
theorem Uk(hS:%[|42] a ks)(q:Q false s):%[|31] (Builtin.List.listLengthHint (.ref a)) Q E s:=by
 unfold Builtin.List.listLengthHint;refine wpAny_bind (wpAny_specialOf hS.typeIs A2P.lookup ?_);have fB:splitId "set.__len__"=some ("set","__len__"):=by decide +kernel
 simp only[fB];refine wpAny_bind (wpAny_isInstance hS.typeIs sub_set_self ?_);rw[if_neg %[|1]];show wpAny _ _ (typeOf (.ref a) >>= _) _ _ _;refine wpAny_bind (wpAny_typeOf hS.typeIs ?_);exact wpAny_pure q
theorem K5(hh:A.handled=none)(hS:%[|42] a ks)(hQ:∀(s':Shared) (acc:%[|6]) (ns:List Int),s.heap.objs.size<=s'.heap.objs.size->(∀b o,s.heap.get? b=some o->s'.heap.get? b=some o)->s'.gens=s.gens->s'.os=s.os->IntsAre acc ns->ns.Perm ks->Q acc s'):
  wpAny %[|33] A (collect (.ref a)) Q E s:=by
 obtain⟨o0,es0,ep0,t0,ho0,_,_,_,hk0,_,gK,_⟩:=id hS;have dQ:a<s.heap.objs.size:=zAF ho0;unfold collect;refine wpAny_bind (wpAny_runValue (codeAny_builtin F.entry_proto_collect ?_));rw[zCE F.plain_proto_collect _];show wpAny _ A.in1 (newList [] >>= λl=>again (.builtin "list.__iadd__" #[[l,.ref a],[]])) _ _ s;refine wpAny_bind (wpAny_newObj_type ?_);refine wpAny_pure #[plainId_quiet F.plain_list_iadd _,codeAny_builtin F.entry_list_iadd ?_];rw[zCE F.plain_list_iadd _];have kk1:∀b ob,s.heap.get? b=some ob->(s.heap.push {cls:=.type "list",data:=.seq ([]:%[|6]).toArray}).get? b=some ob:=λb ob e=>Heap.get?_push_of_some _ e
 have iB:A0G w ({s with heap:=s.heap.push {cls:=.type "list",data:=.seq ([]:%[|6]).toArray}}:Shared).heap a ks:=hS.keep λob e=>kk1 _ _ e
 show wpAny _ A.in1 (Builtin.List.listExtendWith %[|46] (.ref a) %[|46]) _ _ _;unfold Builtin.List.listExtendWith;refine wpAny_bind (wpAny_typeOf iB.typeIs ?_);have h1:Builtin.List.listSameRef %[|46] (.ref a)=false:=by simp[Builtin.List.listSameRef];exact zBO dQ
 have h2:(Value.type "set" == Value.type "list")=false:=by decide
 have h3:(Value.type "set" == Value.type "tuple")=false:=by decide
 simp only[h1,h2,h3,zCO,zBP,if_false];refine wpAny_bind (US iB λh' d' it T0 o oT es ep t fst fh I=>?_);have gd:A0G w ({s with heap:=h',drawn:=d' }:Shared).heap a ks:=iB.keep λob e=>I.kk _ _ e
 refine wpAny_bind (wpAny_holding (Uk (s:={s with heap:=h',drawn:=d' }) gd ?_))
 show wpAny _ A.in1 (rule "list.extend.makes-room" >>= λ_=>Builtin.List.listTouch %[|46] >>= λ_=>
  again (.builtin "list.extend.loop" #[[.ref s.heap.objs.size,.ref it,.ref s.heap.objs.size],[]])) _ _ _
 refine wpAny_bind (wpAny_rule ?_);have hS₁:h'.get? s.heap.objs.size=some {cls:=.type "list",data:=.seq ([]:%[|6]).toArray}:=I.kk _ _ (Heap.get?_push_size _ rfl);exists 1;show wpAny _ A.in1 (updateSeq s.heap.objs.size (·.push .none) >>= λ_=>updateSeq s.heap.objs.size (·.pop)) _ _ _;refine wpAny_bind (wpAny_updateSeq hS₁ rfl ?_);have hS₂:=Heap.get?_update_self (Obj.mapSeq (·.push Value.none)) hS₁ rfl;refine wpAny_updateSeq hS₂ rfl ?_;have hS₃:=Heap.get?_update_self (Obj.mapSeq (·.pop)) hS₂ rfl
 have oth:∀b ob,b≠s.heap.objs.size->h'.get? b=some ob->((h'.update s.heap.objs.size (Obj.mapSeq (·.push Value.none))).update s.heap.objs.size (Obj.mapSeq (·.pop))).get? b=some ob:=
  λb ob hb e=>(Heap.get?_update_other _ _ (zB hb)).trans ((Heap.get?_update_other _ _ (zB hb)).trans e)
 have esz:({s with heap:=s.heap.push {cls:=.type "list",data:=.seq ([]:%[|6]).toArray}}:Shared).heap.objs.size=s.heap.objs.size+1:=zAU _ _;have nit:it≠s.heap.objs.size:=zBO (by have:=I.lo;rw[esz]at this;exact this)
 have nT:T0≠s.heap.objs.size:=by
  rcases I.tl with z|z
  ·rw[z];exact zAI dQ
  ·exact zBO (by rw[esz]at z;exact z)
 have hSf:s.heap.objs.size∉[it,a,T0]:=by
  simp only[zAD,zAB,or_false,not_or];exact#[zB nit,zBO dQ,zB nT]
 have W:=(Uv (prog:=prog) (A:=A.in1) (by simpa using hh) I).toS;have hn:es.size<=sizeLine:=by rw[DE I.ek];exact zA7 (zB1 gK %[|2])
 obtain⟨oi,hoi,ri,ri2⟩:=I.at';refine wpAny_pure #[plainId_quiet F.plain_extend_loop _,codeAny_extend_loopS W hn _ hSf _ es.size 0 _ _ _ rfl (zA5 _) #[#[oi,oth _ _ nit hoi,ri,ri2],oth _ _ (zAI dQ) I.ho,oth _ _ nT I.hT] hS₃ (ItemsOf.nil _) λs' jM c' hm dX dq=>?_];show wpAny _ A (load s.heap.objs.size >>= _) _ _ s';refine wpAny_bind (wpAny_load dX ?_);have hl:fh.length=es.size:=by rw[I.pm.length_eq,List.length_map,zAL]
 have eo:jM.toList=fh:=by
  refine zC7 (by rw[zAL,dq.1,hl]) λn h1 h2=>?_
  have ji:n<jM.size:=by simpa using h1
  have:fh[n]? = some jM[n]:=dq.2 n _ (Array.getElem?_eq_getElem ji);rw[List.getElem?_eq_getElem h2]at this;have:=zAH this
  simpa using this.symm
 obtain⟨ns,hi,hp⟩:=S7 I.pm I.eg I.ek;refine wpAny_pure (hQ s' jM.toList ns (zA7 (zAF dX)) (λb ob e=>?_) hm.gens hm.os (by rw[eo];exact hi) hp);have hb:b<s.heap.objs.size:=zAF e;refine hm.heap b ob ?_ (oth b ob (zAI hb) (I.kk _ _ (kk1 _ _ e)));simp only[zAD,zAB,or_false,not_or];exact#[zAI hb,zAI (zB1 hb (by have:=I.lo;rw[esz]at this;exact this))]
theorem NB(hh:A.handled=none)(hS:%[|42] a ks)(h64:ks.length<64)(h:∀(s':Shared) (l:Addr) (out:Array Value) (n:Nat) (ns:List Int),(∀b o,s.heap.get? b=some o->s'.heap.get? b=some o)->s'.gens=s.gens->s'.os=s.os->s.heap.objs.size<=l->s'.heap.get? l=some (seqObj "list" out n)->IntsAre out.toList ns->ns.Perm ks->ns.Pairwise (· <= ·)->Q (.ref l) s'):
  wpAny %[|33] A (call (.builtin "sorted") [.ref a]) Q E s:=by
 refine Calls.call_function_entry kind_sorted plain_sorted entry_sorted (args_sorted1 _) ?_;unfold Builtin.«sorted»;refine wpAny_bind (m:=checkCount "sorted" 1 1 _) %[|38];refine wpAny_bind (K5 (by simpa using hh) hS λs1 vs ns1 lo kk eg eo hi hp=>?_);have dj:vs.length<64:=by rw[IntsAre.length hi,hp.length_eq];exact h64
 refine wpAny_bind (wpAny_newList ?_ (zA7 (zB1 dj %[|2])));have hoL:(s1.heap.push (seqObj "list" vs.toArray 0)).get? s1.heap.objs.size=some (seqObj "list" vs.toArray 0):=Heap.get?_push_size _ rfl;show wpAny _ _ _ _ _ {s1 with heap:=s1.heap.push (seqObj "list" vs.toArray 0)};refine wpAny_bind (wpAny_holding (wpAny_call_entry slot_list_sort #[_,hoL,rfl] entry_list_sort (list_sort_tree hoL hi dj λout ns' a1 a2 a3=>#[_,rfl,?_]) (args_list_sort _)));refine wpAny_pure #[_,rfl,?_];obtain⟨e1,gz⟩:∃e1,((s1.heap.push (seqObj "list" vs.toArray 0)).update s1.heap.objs.size (Obj.mapSeq λ_=>#v[])).get? s1.heap.objs.size=some (seqObj "list" #v[] e1):=#[_,get?_update_seq hoL (λ_=>#v[])];have ho2:((((s1.heap.push (seqObj "list" vs.toArray 0)).update s1.heap.objs.size (Obj.mapSeq λ_=>#v[])).push (seqObj "tuple" vs.toArray 0)).push (seqObj "list" #v[] 0)).get? s1.heap.objs.size=some (seqObj "list" #v[] e1):=Heap.get?_push_of_some _ %[gz|120];refine h _ s1.heap.objs.size out _ ns' (λb ob e=>?_) eg eo lo (get?_update_seq ho2 (λ_=>out)) a1 (a2.trans hp) a3;have e2:=kk b ob e;have nb:b≠s1.heap.objs.size:=zAI (zAF e2);exact (Heap.get?_update_other _ _ (zB nb)).trans (Heap.get?_push_of_some _ (Heap.get?_push_of_some _ ((Heap.get?_update_other _ _ (zB nb)).trans %[e2|120])))
end
abbrev BE(w:World)(a:Addr)(S:Int->Bool)(n:Nat):HO:=.ext λh=>∃ks,BV (A0I w h a ks) (∀k,S k=true↔k∈ks) (ks.length<=n)
theorem En(x:A0I w h a ks)(m:∀k,S k=true↔k∈ks)(hl:ks.length<=n):A0Q P w H h a (BE w a S n):=
 #[#[ks,x,m,hl],x.it.at_,λh1 h2 ⟨ks,y,r,l⟩ k=>#[ks,y.keep k,r,l]]
section
variable {X:Cx}
theorem Inv.setO(I:%[|4])(h:H a=some (BE X.w a S n)):∃ks,BV (A0I X.w s.heap a ks) (∀k,S k=true↔k∈ks) (ks.length<=n):=(I.hok _ _ h).1
theorem Qp:Cf X (.type "set") (λxs H Q=>xs=[]/\∀a,H a=none->Q (.ref a) (upd H a (BE X.w a (λ_=>false) 0))):=by
 exists 4;obtain⟨rfl,q⟩:=h;cases r;refine S8 (w:=X.w) #[.ref s.heap.objs.size,_,I.laid (t':=s.toks) (o:=BE X.w s.heap.objs.size (λ_=>false) 0) (λb ob e=>Heap.get?_push_of_some _ e) (zAA _) ?_,rfl,q _ (I.hok.fresh (zAA _))];exact En A2B (λk=>by simp) (zAA _)
abbrev QU(w:World)(a:Addr)(S:Int->Bool)(n:Nat):HO:=.ext λh=>∃ks,BV (A0G w h a ks) (∀k,S k=true↔k∈ks) (ks.length<=n)
theorem VH(x:A0G w h a ks)(m:∀k,S k=true↔k∈ks)(hl:ks.length<=n):A0Q P w H h a (QU w a S n):=
 #[#[ks,x,m,hl],x.at_,λh1 h2 ⟨ks,y,r,l⟩ k=>#[ks,y.keep k,r,l]]
theorem Inv.setR(I:%[|4])(h:H a=some (QU X.w a S n)):∃ks,BV (A0G X.w s.heap a ks) (∀k,S k=true↔k∈ks) (ks.length<=n):=(I.hok _ _ h).1
theorem Gu(hc:X.calm=true){pins:%[|19]}{ks:List Int}{S:Int->Bool}{n:Nat}(I:%[|4])(hS:A0G X.w s.heap a ks)(hm:∀k,S k=true↔k∈ks)(hl:ks.length<=n)(hn:n<64)(q:∀(l:Addr) (ns:List Int),H l=none->ns.Pairwise (· < ·)->(∀k,k∈ns↔S k=true)->Q (.ref l) (upd H l (.lst %[|28]))):%[|20] (call (.builtin "sorted") [.ref a]) %[|51] X.xe s:=by
 have ndk:ks.Nodup:=hS.nd;refine NB (w:=X.w) (I.ok.hd hc) hS %[|0] λs' l out c ns kk eg eo lo fU hi hp hs=>?_
 have nd:ns.Nodup:=hp.nodup_iff.mpr ndk;have lt:ns.Pairwise (· < ·):=(List.Pairwise.and hs nd).imp λ{x y} h=>by have h1:=h.1;have h2:=h.2;omega
 have ko:H l=none:=I.hok.fresh lo;have gW:∀b u,H b=some u->upd H l (.lst %[|28]) b=some u:=λb u e=>by rw[Af (Ai e ko)];exact e
 have len:%[|28].length<=sizeLine:=by
  rw[List.length_map,hp.length_eq];exact zA7 (zCS hl (zB1 hn %[|2]))
 have un:Un (GU X.stack) [] H (upd H l (.lst %[|28])) s.heap s'.heap:=
  #[λb o e _ _ _=>kk b o e,λb o e _ _ _=>#[o.slots,kk b o e],λb o e n _=>by rw[Af (zAI (zAN (zAF e) lo))];exact n,λb o e _=>#[o,kk b o e],λb xs e=>gW b _ e,λb o u e=>gW b _ e,λb ps e=>#[#v[],by rw[gW b _ e];simp]]
 have hok:HOk X.prog X.w (upd H l (.lst %[|28])) s'.heap:=λb u e=>by
  by_cases z:b=l
  ·subst z;rw[A0A]at e;cases e;exact#[len,out.toList,c,FO hi,by rw[fU,zDC]]
  ·rw[Af z]at e;exact (I.hok b u e).stay (λc v _ e=>kk c v e) (λc e=>gW c _ e) λc xs e=>gW c _ e
 exact#[.ref l,_,I.call' (ch:=[]) eo un hok (by rw[eg];exact I.bare) (λb hb=>absurd hb %[|1]),rfl,q l ns ko lt λk=>by rw[hp.mem_iff];exact (hm k).symm]
inductive D5(w:World)(xs:List V)(H:Hp)(Q:VK):Prop|mk(a S n)(_:xs=[.ref a])(_:H a=some (BE w a S n))(_:n<64)(_:∀(l:Addr)(ns:List Int),H l=none->ns.Pairwise (· < ·)->(∀k,k∈ns↔S k=true)->Q (.ref l) (upd H l (.lst %[|28])))
theorem DK(hc:X.calm=true):Cf X (.builtin "sorted") (D5 X.w):=by
 exists 4;obtain⟨a,S,n,rfl,ha,hn,q⟩:=h;obtain⟨u,rfl,ru⟩:=C3 r;cases ru;obtain⟨ks,hS,hm,hl⟩:=I.setO ha;exact Gu hc I hS.it hm hl hn q
inductive DW(w:World)(xs:List V)(H:Hp)(Q:VK):Prop|mk(a S n)(_:xs=[.ref a])(_:H a=some (QU w a S n))(_:n<64)(_:∀(l:Addr)(ns:List Int),H l=none->ns.Pairwise (· < ·)->(∀k,k∈ns↔S k=true)->Q (.ref l) (upd H l (.lst %[|28])))
theorem Kv(hc:X.calm=true):Cf X (.builtin "sorted") (DW X.w):=by
 exists 4;obtain⟨a,S,n,rfl,ha,hn,q⟩:=h;obtain⟨u,rfl,ru⟩:=C3 r;cases ru;obtain⟨ks,hS,hm,hl⟩:=I.setR ha;exact Gu hc I hS hm hl hn q
variable {o e:Expr}{es:%[|22]}{to:TE}{t:TA}{dF dC:Pos}
inductive Pb(X:Cx)(Q:VK)(a:Addr)(xs:List V)(H2:Hp):Prop|mk(k S2 n2)(_:xs=[.int k])(_:H2 a=some (BE X.w a S2 n2))(_:n2+1<2000)(_:Q .non (upd H2 a (BE X.w a (λj=>S2 j || decide (j=k)) (n2+1))))
inductive TB(X:Cx)(t:TA)(σ:St)(Q:VK)(x:V)(H1:Hp):Prop|mk(a S n)(_:x=.ref a)(_:H1 a=some (BE X.w a S n))(_:t σ H1 (Pb X Q a))
def ak(X:Cx)(to:TE)(t:TA):TE:=λσ H Q=>to σ H (TB X t σ Q)
theorem WF(ho:PE X o to)(hp:PA X (e::es) t)(gu:attributeBase o "add" X.env (eval o X.env)=eval o X.env:=by rfl)(hfew:((backTo dC (starEach (e::es) X.env)).all (λx=>!x.1) && (backToKw dC (keywordEach [] X.env)).all (λx=>x.1.isSome)
   && decide %[|107])=true:=by rfl)(fX:(dF.endLine == dC.line)=true:=by rfl)(hs:starEach (e::es) X.env=%[|52]::starEach es X.env:=by rfl)(gQ:(backTo dC (starEach es X.env)).any (·.1)=false:=by rfl):
  PE X (.Call (.Attribute o "add" dF) (e::es) [] dC) (ak X to t):=by
 exists 0;refine wpAny_Call_method_late gu hfew fX rfl (AU (ho pins s σ H _ I h) λv s1 ⟨x,H1,I1,r1,a,S,n,ex,ha,q1⟩=>?_);subst ex;cases r1;obtain⟨ks,hS,hm,hl⟩:=I1.setO ha;refine#["set","set.add",PySem.F.plainAttrs_set,PySem.F.slot_set_add,PySem.F.type_set_add,hS.typeIs,λb eb=>hS.noDict b eb,?_];have hA:=hp dC pins s1 σ H1 _ I1 q1;rw[hs]at hA ⊢;refine zC1 (by show (false || (backTo dC (starEach es X.env)).any (·.1))=false;rw[gQ]<;>rfl) (Calls.evalArgs_plain ?_);refine AU hA λus s2 ⟨vs,H2,I2,r2,k,S2,n2,ek,dL,iw,q2⟩=>?_
 subst ek;obtain⟨u,rfl,ru⟩:=C3 r2;obtain⟨tk,rfl⟩:=ru;obtain⟨ks2,gd,dU,dG⟩:=I2.setO dL;refine Lm (w:=X.w) gd %[|0] λh' eI fe dX fC fU=>?_
 have mu:Zz (H2 a):=by rw[dL];exact True.intro
 refine#[.non,_,I2.write (x:=a) (e:=a) (t':=s2.toks+1) mu (.inl rfl) (λb ob nb eb=>(fe.2 b nb).trans eb) (dX.it.at_) (En dX (λj=>?_) %[|0]),rfl,q2];rw[fC j,zBE,decide_eq_true_eq,dU j]
end
theorem JJ:∀(names:List (Str×NameKind))(h:Heap)(acc:List (Str×Addr))(n:Str)(c:Addr),(cellsFrom h.objs.size names acc).lookup n=some c->acc.lookup n=some c\/(h.objs.size<=c/\(pushCells h names).IsCell c none)
 |[],_,_,_,_,e=>.inl e
 |(name,kind)::r,h,acc,n,c,e=>by
  unfold cellsFrom at e;unfold pushCells;split at e
  ·rename_i hk;rw[if_pos hk];have e':(cellsFrom (h.push {cls:=.type "cell",data:=.cell none}).objs.size r ((name,h.objs.size)::acc)).lookup n=some c:=by rw[zAU];exact e
   rcases JJ r _ _ n c e' with z|⟨z1,z2⟩
   ·rw[zC8]at z
    cases hb:n == name with
    |true=>
     rw[hb]at z;cases z;exact .inr #[zAA _,_,pushCells_keeps r _ _ _ (Heap.get?_push_size _ rfl),rfl]
    |false=>rw[hb]at z;exact .inl z
   ·rw[zAU]at z1;exact .inr #[by omega,z2]
  ·rename_i hk;rw[if_neg hk];exact JJ r h acc n c e
theorem MW:∀(names:List (Str×NameKind))(k:Nat)(acc:List (Str×Addr)),(∀x y c,acc.lookup x=some c->acc.lookup y=some c->x=y)->(∀x c,acc.lookup x=some c->c<k)->∀x y c,(cellsFrom k names acc).lookup x=some c->(cellsFrom k names acc).lookup y=some c->x=y
 |[],_,_,hi,_,x,y,c,e1,e2=>hi x y c e1 e2
 |(name,kind)::r,k,acc,hi,hl,x,y,c,e1,e2=>by
  unfold cellsFrom at e1 e2;split at e1
  ·rename_i hk;rw[if_pos hk]at e2
   have look:∀x c,((name,k)::acc).lookup x=some c->(x=name/\c=k)\/acc.lookup x=some c:=λx c e=>by
    rw[zC8]at e
    cases hb:x == name with
    |true=>rw[hb]at e;cases e;exact .inl #[beq_iff_eq.mp hb,rfl]
    |false=>rw[hb]at e;exact .inr e
   refine MW r (k+1) _ (λx y c h1 h2=>?_) (λx c h=>?_) x y c e1 e2
   ·rcases look x c h1 with⟨a,b⟩|a<;>rcases look y c h2 with⟨a',b'⟩|a'
    ·rw[a,a']
    ·have:=hl y c a';rw[b]at this;exact absurd this (zBN _)
    ·have:=hl x c a;rw[b']at this;exact absurd this (zBN _)
    ·exact hi x y c a a'
   ·rcases look x c h with⟨_,b⟩|a
    ·rw[b];exact zB5 _
    ·exact zA2 (hl x c a)
  ·rename_i hk;rw[if_neg hk]at e2;exact MW r k acc hi hl x y c e1 e2
theorem Nh:∀(names:List (Str×NameKind))(k:Nat)(acc:List (Str×Addr))(x:Str),(names.any λp=>p.1 == x && p.2 == .cell)=true\/(∃c,acc.lookup x=some c)->∃c,(cellsFrom k names acc).lookup x=some c
 |[],_,_,_,h=>by
  rcases h with z|z
  ·cases z
  ·exact z
 |(name,kind)::r,k,acc,x,h=>by
  unfold cellsFrom;by_cases hk:(kind == NameKind.cell)=true
  ·rw[if_pos hk];refine Nh r (k+1) _ x ?_;rw[zC8]
   cases hb:x == name with
   |true=>exact .inr #[_,rfl]
   |false=>
    rcases h with z|z
    ·rw[zBW,zBE]at z;rcases z with z|z
     ·rw[zAX]at z;have:x == name:=by rw[beq_iff_eq];exact (beq_iff_eq.mp z.1).symm
      rw[hb]at this;cases this
     ·exact .inl z
    ·exact .inr z
  ·rw[if_neg hk];refine Nh r k acc x ?_;rcases h with z|z
   ·rw[zBW,zBE]at z;rcases z with z|z
    ·rw[zAX]at z;exact absurd z.2 hk
    ·exact .inl z
   ·exact .inr z
theorem R8(h:Q (newEnv scope s.heap.objs.size globals (cellsFrom %[|41] scope.names cl) dz none .none (some env) builtinsNs) {s with heap:=pushCells (s.heap.push {cls:=.type "dict",data:=.dict #v[]}) scope.names}):
  wpAny M A (newFunctionEnv scope globals cl [] dz none .none (some env)) Q E s:=by
 simp only[newFunctionEnv,Option.isSome_some,if_true];refine wpAny_bind (wpAny_alloc ?_);refine wpAny_bind (wpAny_layCells _ (λname kind cells=>by cases hkc:kind == NameKind.cell<;>simp[hkc]) _ _ _ _ ?_);rw[show ({s with heap:=s.heap.push {cls:=.type "dict",data:=.dict #v[]}}:Shared).heap.objs.size=s.heap.objs.size+1 from zAU ..];exact wpAny_bind (wpAny_pure (wpAny_pure h))
def Cx.cmk(X:Cx)(N:List Str)(scope:Scope)(cl:List (Str×Addr))(c:CC):Cx:=
 {X with N:=N,s₀:=c.s,H₀:=c.H,env:=compEnvC scope (cellsFrom (c.s.heap.objs.size+1) scope.names cl) c.s.heap.objs.size X.env,outer:=X.stack,ex:=c.fp,fn:=λx=>(scope.names.any λp=>p.1 == x && p.2 == .cell) && !(cl.any λp=>p.1 == x),pn:=[]}
section
variable {X:Cx}{N:List Str}{scope:Scope}{cl:List (Str×Addr)}{js:List (%[|34])}{pins:%[|19]}{σ:St}{H:Hp}{s:Shared}{fp:%[|3]}
theorem Inv.cmk(I:%[|4])(hf:∀b∈fp,CP X pins H b)(gT:∀b∈fp,b<s.heap.objs.size)(hk:scope.kind=.function)(fR:∀p∈cl,X.env.cells.lookup p.1=some p.2)(hcn:∀x,%[|85]->∃c,(cellsFrom %[|41] scope.names cl).lookup x=some c)(ix:Gd X N scope js)(hsc:∀(i:Nat) (x:Str) (j:Nat),N[i]? = some x->js[i]? = some (some j)->∀k,(cellsFrom k scope.names cl).lookup x=cl.lookup x)(hl:js.length=N.length)(e:h'=pushCells (s.heap.push {cls:=.type "dict",data:=.dict #v[]}) scope.names):
  Inv (X.cmk N scope cl #[s,H,fp]) [] (sub js σ) H {s with heap:=h',toks:=t' }:=by
 have dO:∀x c,cl.lookup x=some c->X.env.cells.lookup x=some c:=λx c e=>fR (x,c) (zAZ e)
 have eS:∀b o,s.heap.get? b=some o->h'.get? b=some o:=λb o q=>by rw[e];exact pushCells_keeps _ _ b o %[q|120]
 have clt:∀x c,cl.lookup x=some c->c<s.heap.objs.size:=λx c q=>by
  obtain⟨v,o,ho,_⟩:=I.cell x c (dO x c q);exact zAF ho
 have hc:∀x c,(cellsFrom %[|41] scope.names cl).lookup x=some c->cl.lookup x=some c\/(s.heap.objs.size+1<=c/\h'.IsCell c none):=λx c q=>by
  have q':(cellsFrom (s.heap.push {cls:=.type "dict",data:=.dict #v[]}).objs.size scope.names cl).lookup x=some c:=by rw[zAU];exact q
  have:=JJ _ _ _ x c q';rw[zAU]at this;rw[e];exact this
 have hL:h'.Ns s.heap.objs.size (λ_=>none):=by
  rw[e];exact (Heap.Ns.new s.heap (.type "dict")).keeps (pushCells_keeps _ _)
 refine#[#[I.ok.mod,?_,I.ok.glob,I.ok.blt,zAA _,?_,λx hx=>hcn x hx,λx c hx q=>?_,I.ok.hd,I.ok.frames,.inl rfl,λb hb=>#[zAI (gT b hb),λx c q=>?_],
   I.bs,zAC I.ok.bsz I.sz,λb o q hb=>?_,λb hb hs=>?_,I.stack,I.stkFree],rfl,I.bare,Un.kept eS,#[_,hL,λi x v e1 e2 e3=>?_],λx c q=>?_,I.hok.fresh (zAA _),λx c q=>?_,λp hp=>?_,I.hok.kept eS,?_]
 ·show (relabel scope X.env).kind=.function;exact hk
 ·refine MW scope.names %[|41] cl (λx y c h1 h2=>I.ok.inj x y c (dO x c h1) (dO y c h2)) λx c q=>zA2 (clt x c q)
 ·have hx':((scope.names.any λp=>p.1 == x && p.2 == .cell) && !(cl.any λp=>p.1 == x))=true:=hx;rw[zAX]at hx';rcases hc x c q with z|⟨z,_⟩
  ·have hm:(cl.any λp=>p.1 == x)=true:=List.any_eq_true.mpr #[(x,c),zAZ z,by simp];rw[hm]at hx';cases hx'.2
  ·exact zAC (zBA _) z
 ·rcases hc x c q with z|⟨z,_⟩
  ·exact (hf b hb).2.2.2.2.1 x c (dO x c z)
  ·exact zBO (zAN (gT b hb) (zAC (zBA _) z))
 ·rcases (hf b hb).2.2.2.1 with z|z
  ·exact I.ok.noex b o q z
  ·exact absurd (zAN (zAF (I.ok.bs b o q).1) z) (zBN _)
 ·rcases List.mem_cons.mp (I.stkSub b hs)with z|z
  ·exact (hf b hb).2.1 z
  ·exact (hf b hb).2.2.1 z
 ·have fD:(sub js σ)[i]? = some (some v):=e2;unfold sub at fD;rw[List.getElem?_map]at fD
  cases ej:js[i]? with
  |none=>rw[ej]at fD;cases fD
  |some o=>
   rw[ej]at fD
   cases o with
   |none=>cases fD
   |some j=>
    obtain⟨a1,a2,a3⟩:=ix i x j e1 ej;have e4:(σ[j]?).join=some v:=zAH fD
    have e5:σ[j]? = some (some v):=by
     cases q:σ[j]? with
     |none=>rw[q]at e4;cases e4
     |some o=>
      rw[q]at e4;have:o=some v:=e4;rw[this]
    obtain⟨m,hn,hloc⟩:=I.loc;obtain⟨u,r,l⟩:=hloc j x v a1 e5 (.inr (.inl a2));refine#[u,r,.inr #[.inl a3,?_]];obtain⟨c,hc1⟩:=hcn x (.inl a3);have jN:cl.lookup x=some c:=by rw[<-hsc i x j e1 ej %[|41]];exact hc1
    refine#[c,hc1,?_];rcases l with⟨k,_⟩|⟨_,c',hc',dY⟩
    ·rw[k]at a2;cases a2
    ·have:c'=c:=by
      have:=dO x c jN;rw[hc']at this;exact zAH this
     subst this;obtain⟨o,ho,hd⟩:=dY;exact#[o,eS _ _ ho,hd]
 ·rcases hc x c q with z|⟨_,z⟩
  ·obtain⟨v,o,ho,hd⟩:=I.cell x c (dO x c z);exact#[v,o,eS _ _ ho,hd]
  ·exact#[none,z]
 ·rcases hc x c q with z|⟨z,_⟩
  ·exact I.freeC x c (dO x c z)
  ·exact I.hok.fresh (zAC (zBA _) z)
 ·exact absurd (show p∈([]:%[|19]) from hp) %[|1]
 ·unfold sub;rw[List.length_map];exact hl
theorem Inv.uncmk(I:%[|4])(hf:∀b∈fp,CP X pins H b)(J:Inv (X.cmk N scope cl #[s,H,fp]) [] σ' H' s')(fe:Heap.SameBut s.heap.objs.size s'.heap gU):
  Inv X pins σ H' {s' with heap:=gU}:=by
 have u:Un (GU X.stack) fp H H' s.heap s'.heap:=J.base;have ne:∀b o,s.heap.get? b=some o->b≠s.heap.objs.size:=λb o e=>zAI (zAF e)
 exists 604
end
structure A2A(X:Cx)(N:List Str)(scope:Scope)(cl:List (Str×Addr))(js:List (%[|34])):Prop where
 clos:closureFor scope X.env=pure cl
 kind:scope.kind=.function
 loc:(scope.names.all λx=>x.2 != .local || scope.names.lookup x.1 == some .local)=true
 ccl:∀p∈cl,X.env.cells.lookup p.1=some p.2
 cn:((relabel scope X.env).names.all λp=>!(p.2 == .cell || p.2 == .free) || (scope.names.any λq=>q.1 == p.1 && q.2 == .cell) || (cl.lookup p.1).isSome)=true
 sh:((N.zip js).all λp=>match p.2 with|none=>true|some j=>X.N[j]? == some p.1 && X.env.kindOf p.1 == some .cell && (relabel scope X.env).names.lookup p.1 == some .cell && !(scope.names.any λq=>q.1 == p.1 && q.2 == .cell))=true
 len:js.length=N.length
theorem Ha:∀(names:List (Str×NameKind))(k:Nat)(acc:List (Str×Addr))(x:Str),(names.any λq=>q.1 == x && q.2 == .cell)=false->(cellsFrom k names acc).lookup x=acc.lookup x
 |[],_,_,_,_=>rfl
 |(name,kind)::r,k,acc,x,h=>by
  rw[zBW,Bool.or_eq_false_iff]at h;unfold cellsFrom;by_cases hk:(kind == NameKind.cell)=true
  ·rw[if_pos hk,Ha r (k+1) _ x h.2,zC8]
   have:(x == name)=false:=by
    have h1:=h.1;rw[hk,Bool.and_true]at h1;have:name≠x:=λe=>by rw[e]at h1;simp at h1
    exact beq_false_of_ne (zB this)
   rw[this]
  ·rw[if_neg hk,Ha r k acc x h.2]
section
variable {X:Cx}{N:List Str}{scope:Scope}{cl:List (Str×Addr)}{js:List (%[|34])}
theorem A2A.names(h:A2A X N scope cl js):∀x∈scope.names,x.2=.local->scope.names.lookup x.1=some .local:=λx hx e=>by
 have q:=(List.all_eq_true.mp h.loc) x hx;rw[e]at q
 simpa using q
theorem A2A.hcn(h:A2A X N scope cl js)(k:Nat):∀x,%[|85]->∃c,(cellsFrom k scope.names cl).lookup x=some c:=λx hx=>by
 refine Nh _ _ _ _ ?_;rcases hx with e|e
 ·have q:=(List.all_eq_true.mp h.cn) _ (zAZ e);simp only[zBE]at q;rcases q with (q|q)|q
  ·simp at q
  ·exact .inl q
  ·exact .inr (Option.isSome_iff_exists.mp q)
 ·have q:=(List.all_eq_true.mp h.cn) _ (zAZ e);simp only[zBE]at q;rcases q with (q|q)|q
  ·simp at q
  ·exact .inl q
  ·exact .inr (Option.isSome_iff_exists.mp q)
theorem A2A.mem(h:A2A X N scope cl js){i:Nat}{x:Str}{j:Nat}(e1:N[i]? = some x)(e2:js[i]? = some (some j)):(X.N[j]? = some x/\X.env.kindOf x=some .cell/\(relabel scope X.env).names.lookup x=some .cell)/\(scope.names.any λq=>q.1 == x && q.2 == .cell)=false:=by
 have hm:(x,some j)∈N.zip js:=by
  have:(N.zip js)[i]? = some (x,some j):=by rw[List.getElem?_zip_eq_some];exact#[e1,e2]
  exact zAJ this
 have q:=(List.all_eq_true.mp h.sh) _ hm;simp only[zAX]at q;exact#[#[eq_of_beq q.1.1.1,eq_of_beq q.1.1.2,eq_of_beq q.1.2],by simpa using q.2]
variable {dy tg df:Expr}{dw:%[|22]}{rest:List Comprehension}{pos:Pos}{wi:TI}{g:CC->TG}{tb:CC->Addr->TS}
variable {d5 di:Expr}{dA:%[|22]}{gS:CC->TI}{g1:CC->TG}{tc tc1:CC->TT}{te:CC->TE}
end
theorem JV:∀{xs:List V}{us:%[|6]},xs.length=us.length->(∀(i:Nat)(x:V)(u:Value),xs[i]? = some x->us[i]? = some u->RelV x u)->Vals xs us
 |[],[],_,_=>.nil
 |[],_::_,h,_=>by cases h
 |_::_,[],h,_=>by cases h
 |x::xs,u::us,h,f=>.cons (f 0 x u rfl rfl) (JV (Nat.succ.inj h) λi y v hy hv=>f (i+1) y v (by simpa using hy) (by simpa using hv))
theorem IB{α:Type}(bs:List α)(d:α):(List.range bs.length).map (λi=>bs.getD i d)=bs:=by
 refine zC7 %[|1] λn h1 h2=>?_
 simp[List.getD,h2]
theorem Q5(bs:List Bool):(List.range bs.length).any (λi=>bs.getD i false)=bs.any id:=by
 have:=IB bs false
 conv=>rhs;rw[<-this]
 rw[zDQ];rfl
theorem Q2(bs:List Bool):(List.range bs.length).all (λi=>bs.getD i false)=bs.all id:=by
 have:=IB bs false
 conv=>rhs;rw[<-this]
 rw[zDD];rfl
theorem Mf{bs:List Bool}{its:%[|6]}(rv:Vals (bs.map V.bl) its):TruthOf prog w A (λi v=>its.toArray[i]? = some v) (λi=>bs.getD i false):=by
 intro i v s Q E hv q;have hv':its[i]? = some v:=by simpa using hv
 have hi:i<bs.length:=by
  have h1:=%[hv'|117].1;have:=rv.length;rw[List.length_map]at this;omega
 have hx:(bs.map V.bl)[i]? = some (.bl bs[i]):=by rw[List.getElem?_map,List.getElem?_eq_getElem hi];rfl
 obtain⟨u,hu,ru⟩:=rv.get hx;rw[hv']at hu;cases hu;cases (show v=Value.bool bs[i] from ru);refine wpAny_truthy_bool ?_;have e:bs.getD i false=bs[i]:=by simp[List.getD,hi]
 rw[<-e];exact q
section
variable {X:Cx}
inductive Gy(xs:List V)(H:Hp)(Q:VK):Prop|mk(j:Int)(_:xs=[.int j])(_:∀r,H r=none->Q (.ref r) (upd H r (.rng 0 j)))
theorem Gf:Cf X (.type "range") (Gy):=by
 exists 4;obtain⟨j,rfl,q⟩:=h;obtain⟨u,rfl,ru⟩:=C3 r;obtain⟨t,rfl⟩:=ru;refine call_range_1 #[.ref s.heap.objs.size,_,I.laid (o:=.rng 0 j) (λb ob e=>Heap.get?_push_of_some _ e) (zAA _) ?_,rfl,q _ (I.hok.fresh (zAA _))];exact#[_,_,_,Heap.get?_push_size _ rfl]
def Dw(n:Nat):List Int:=(List.range n).map λ(k:Nat)=>(k:Int)
inductive FD(xs:List V)(H:Hp)(Q:VK):Prop|mk(r:Addr)(n:Nat)(_:xs=[.ref r])(_:H r=some (.rng 0 (n:Int)))(_:n<=1000)(_:∀l,H l=none->Q (.ref l) (upd H l (.lst ((Dw n).map V.int))))
theorem HG(hc:X.calm=true):Cf X (.type "list") (FD):=by
 exists 4;obtain⟨rr,n,rfl,hr,hn,q⟩:=h;obtain⟨u,rfl,ru⟩:=C3 r;cases ru;obtain⟨t,u,v,ho⟩:=(show A0Q X.prog X.w H s.heap rr (.rng 0 (n:Int)) from I.hok rr _ hr);have hsz:Builtin.Range.rangeSize 0 (n:Int) 1=n:=by rw[rangeSize_one];split<;>omega
 refine call_list_range (n:=n) (I.ok.hd hc) ho (small_one %[|0] %[|0] %[|0] %[|0]) hsz %[|0] λh' tk acc c kk hl hi=>?_
 have lo:s.heap.objs.size<=s.heap.objs.size:=zAA _
 have hv:Vals ((Dw n).map V.int) acc.toList:=by
  have gf:acc.toList.length=n:=by rw[zAL,hi.1]
  refine JV (by unfold Dw;simp[gf]) λi x u hx hu=>?_
  have fG:i<n:=by
   have:=%[hu|117].1;omega
  obtain⟨t,e⟩:=hi.2 i u (by simpa using hu)
  have ex:x=.int (i:Int):=by
   unfold Dw at hx;rw[zA0,List.getElem?_map,List.getElem?_range fG]at hx;exact (zAH hx).symm
  subst ex;refine#[t,?_];rw[e]
  congr 1
  omega
 refine#[.ref s.heap.objs.size,_,I.laid (t':=tk) (o:=.lst ((Dw n).map V.int)) kk lo ?_,rfl,q _ (I.hok.fresh lo)];refine#[?_,acc.toList,c,hv,by rw[hl,zDC]];unfold Dw;rw[List.length_map,List.length_map,zCD];exact zAC hn %[|2]
inductive Gm(K:PySem.W.Frag)(xs:List V)(H:Hp)(Q:VK):Prop|mk(l:Addr)(bs:List Bool)(_:xs=[.ref l])(_:SqL K H l (bs.map V.bl))(_:Q (.bl (bs.any id)) H)
theorem JD(hc:X.calm=true):Cf X (.builtin "any") (Gm X.K):=by
 exists 4;obtain⟨l,bs,rfl,hq,q⟩:=h;obtain⟨u,rfl,ru⟩:=C3 r;cases ru;obtain⟨its,rv,pl,hz⟩:=I.list hq;have dQ:l<s.heap.objs.size:=let ⟨o,ho,_⟩:=pl.isList;zAF ho
 have dj:its.length=bs.length:=by rw[<-rv.length,List.length_map]
 refine call_any_walk %[|110];have e:(List.range its.toArray.size).any (λi=>bs.getD i false)=bs.any id:=by rw[zAK,dj,Q5]
 rw[e];exact#[.bl _,H,I.kept (t':=tk) λb ob eb=>kk b ob (by simp only[zBZ];exact zAI (zAF eb)) %[eb|120],rfl,q]
inductive Gn(K:PySem.W.Frag)(xs:List V)(H:Hp)(Q:VK):Prop|mk(l:Addr)(bs:List Bool)(_:xs=[.ref l])(_:SqL K H l (bs.map V.bl))(_:Q (.bl (bs.all id)) H)
theorem Dp(hc:X.calm=true):Cf X (.builtin "all") (Gn X.K):=by
 exists 4;obtain⟨l,bs,rfl,hq,q⟩:=h;obtain⟨u,rfl,ru⟩:=C3 r;cases ru;obtain⟨its,rv,pl,hz⟩:=I.list hq;have dQ:l<s.heap.objs.size:=let ⟨o,ho,_⟩:=pl.isList;zAF ho
 have dj:its.length=bs.length:=by rw[<-rv.length,List.length_map]
 refine call_all_walk %[|110];have e:(List.range its.toArray.size).all (λi=>bs.getD i false)=bs.all id:=by rw[zAK,dj,Q2]
 rw[e];exact#[.bl _,H,I.kept (t':=tk) λb ob eb=>kk b ob (by simp only[zBZ];exact zAI (zAF eb)) %[eb|120],rfl,q]
end
section
variable {prog:Program}{w:World}{A:Around}{R:Result->Shared->Prop}{I:Addr}{fp wr:%[|3]}{G:Array GenState->Array GenState->Prop}{n:Nat}{P:Nat->Value->Prop}{St:Nat->Shared->Prop}
theorem TL(W:WalksS prog w A.in1 I fp wr G n P St)(S:Addr)(hSf:S∉fp)(val:Nat->Int)(hval:∀i v,P i v->∃t,v=.int (val i) t)(hb:n<1000):
  ∀k i s ks,n-i=k->i<=n->St i s->A0I w s.heap S ks->(∀j,j∈ks↔∃m,m<i/\val m=j)->ks.length<=i->
   (∀s' eI,Moved (S::wr) G s s'->A0I w s'.heap S eI->(∀j,j∈eI↔∃m,m<n/\val m=j)->eI.length<=n->R (.ok (.ret .none)) s')->
   codeAny %[|33] A (.builtin "set.update.loop" #[[.ref S,.ref I],[]]) R s:=by
 have hSw:S∉wr:=λh=>hSf (W.sub _ h)
 have i5:∀b∈wr,b∈S::wr:=λb hb=>List.mem_cons_of_mem _ hb
 intro k
 induction k with
 |zero=>
  intro i s ks hk hi eG hS gZ gK hR;have fG:i=n:=by omega
  subst fG;refine codeAny_builtin F.entry_set_update_loop ?_;rw[zCE zCW _];show wpAny _ A.in1 (pyNext (.ref I) >>= _) _ _ s;refine wpAny_bind (W.done s _ _ eG λs' hm=>?_);show wpAny _ A.in1 (ret Value.none) _ _ s';exact wpAny_pure (hR s' ks (hm.mono i5) (hS.keep λo e=>hm.heap S _ hSw e) gZ gK)
 |succ k ih=>
  intro i s ks hk hi eG hS gZ gK hR;have dQ:i<n:=by omega
  refine codeAny_builtin F.entry_set_update_loop ?_;rw[zCE zCW _];show wpAny _ A.in1 (pyNext (.ref I) >>= _) _ _ s;refine wpAny_bind (W.item i s _ _ dQ eG λv s' hP hst' hm=>?_);obtain⟨t,rfl⟩:=hval i v hP;have dX:A0I w s'.heap S ks:=hS.keep λo e=>hm.heap S _ hSw e
  show wpAny _ A.in1 (holding [Value.int (val i) t] (setAdd S (.int (val i) t)) >>= _) _ _ s';refine wpAny_bind (wpAny_holding ?_);unfold setAdd;refine wpAny_holding ?_;refine wpAny_bind ((intKind prog w).pyHash (k:=val i) (intKind_is _ _ _ _) ?_);refine GP (s:={s' with toks:=s'.toks+1}) dX %[|0] λh' eI fe gd dU dG=>?_
  refine wpAny_pure #[plainId_quiet zCW _,ih (i+1) _ eI %[|0] dQ (W.frame _ s' _ _ hst' (zBA _) λb hb o e=>?_) gd (λj=>?_) %[|0] λs'' ks'' hm'' hS'' hmm hll=>?_]
  ·rw[fe.2 b (λh:b=S=>hSf (by rw[<-h];exact hb))];exact e
  ·rw[dU j,gZ j];constructor
   ·rintro (⟨m,h1,h2⟩|h)
    ·exact#[m,zA2 h1,h2]
    ·exact#[i,zB5 _,h.symm]
   ·rintro⟨m,h1,h2⟩;rcases Nat.lt_succ_iff_lt_or_eq.mp h1 with z|z
    ·exact .inl #[m,z,h2]
    ·subst z;exact .inr h2.symm
  ·refine hR s'' ks'' (Moved.trans W.gtrans ((hm.mono i5).then_heap (zBA _) λb o hb e=>?_) hm'') hS'' hmm hll;rw[fe.2 b (λh:b=S=>hb (by rw[h];exact List.mem_cons_self))];exact e
end
section
variable {prog:Program}{w:World}{A:Around}{E:Value->Shared->Prop}{s:Shared}
set_option maxHeartbeats 3200000 in
theorem Qt(hh:A.handled=none)(hl:s.heap.IsList l dh)(hi:IntsAre dh.toList ns)(hb:dh.size<1000)(h:∀(h':Heap) (tk:Nat) (ks:List Int),A0I w h' s.heap.objs.size ks->(∀j,j∈ks↔j∈ns)->ks.length<=ns.length->
   (∀b o,s.heap.get? b=some o->h'.get? b=some o)->Q %[|46] {s with heap:=h',toks:=tk}):
  wpAny %[|33] A (call (.type "set") [.ref l]) Q E s:=by
 have dj:ns.length=dh.size:=by rw[<-zAL];exact (IntsAre.length hi).symm
 obtain⟨c,tl,hmro⟩:=F.called_set.mro;have hmade:=F.called_set.made;have i5:=F.called_set.sub;refine wpAny_call (codeAny_of_tree ?_);show wpAny _ _ (callAny (.type "set") _) _ _ _;refine wpAny_pure #[zCT _ %[|35],codeAny_builtin F.entry_type_call ?_];rw[Around.under_plain (weight_type_call_type "set" [.ref l] []) rfl];have h1:=F.called_set.notType;have h2:=F.called_set.canCreate;have hct:=F.typeCall_set_1 (.ref l);exists 18;refine codeAny_mono (La (E:=E) (.inr #[.ref l,rfl]) (Q₁:=λobj s₁=>obj=.ref s.heap.objs.size/\s₁={s with heap:=s.heap.push (Bw w)}) #[rfl,rfl]) λr s₁ hr=>?_
 cases r with
 |error e=>exact hr
 |ok fl=>
  cases fl with
  |ret obj=>
   obtain⟨rfl,rfl⟩:=hr;have hS:%[|49].get? s.heap.objs.size=some (Bw w):=Heap.get?_push_size _ rfl;have hT:Shared.TypeIs {s with heap:=s.heap.push (Bw w)} %[|46] "set":=#[_,hS,rfl];have hli:=F.called_set.init.lookup;have iA:=F.called_set.init.bind %[|46];exists 18;refine codeAny_mono (codeAny_call_builtin (R:=wants (λr s₂=>r=.none/\Fb λh' tk ks=>Il (s₂={s with heap:=h',toks:=tk}) (A0I w h' s.heap.objs.size ks) (∀j,j∈ks↔j∈ns) (ks.length<=ns.length) (∀b o,s.heap.get? b=some o->h'.get? b=some o)) E) F.called_set.init.plain F.entry_set_init (check_set_init_1 hT ?_)) λr₂ s₂ hr₂=>?_
   ·obtain⟨ol,g5,fR,nl,jj⟩:=hl;obtain⟨ocls,odict,odata,oslots⟩:=ol;simp only at fR jj;subst fR;subst jj;have hol':%[|49].get? l=some {cls:=.type "list",dict:=odict,data:=.seq dh nl,slots:=oslots}:=Heap.get?_push_of_some _ g5;have hsls:=F.sub_list_set;have hslf:=F.sub_list_frozenset;have dB:(Value.type "list" == Value.type "dict")=false:=by decide
    have eC:%[|49].IsList l dh:=#[_,hol',rfl,nl,rfl];unfold Builtin.«set.__init__» noKeywords Builtin.Frozenset.updateFrom;generalize hPI:pyIter=PI
    wp_walk
    subst hPI;refine wpAny_pyIter_list eC ?_;refine wpAny_bind (wpAny_runValue ?_);have hlS:l<s.heap.objs.size:=zAF g5;have hh3:A.in1.in1.in1.handled=none:=by simp[hh]
    have hneI:l≠%[|49].objs.size:=by
     rw[zAU];exact zAI (zA2 hlS)
    have hSf:s.heap.objs.size∉[%[|49].objs.size,l]:=by
     rw[zAU];simp only[zAD,zBZ,zAB,or_false,not_or];exact#[zAI (zB5 _),zBO hlS]
    have hval:∀(i:Nat)(v:Value),dh[i]? = some v->∃t,v=.int ((λi=>ns.getD i 0) i) t:=λi v hv=>
     IntsAre.int_at hi i v (by rw[Array.getElem?_toList];exact hv)
    refine TL ((Walks.list hh3 _ l hneI dh).toS) s.heap.objs.size
     hSf (λi=>ns.getD i 0) hval hb (dh.size-0) 0 _ [] %[|0] (zA5 _)
     #[#[_,Heap.get?_push_size _ rfl,rfl,rfl],(eC.push _)] ?hS0 (λj=>by simp) (zAA _) ?hR
    case hS0=>exact A2B.keep λo e=>Heap.get?_push_of_some _ e
    case hR=>
     intro s' ks hm dX hmm hll;obtain⟨h',g',d',tk',os'⟩:=s';have eg:g'=s.gens:=hm.gens;have ed:d'=s.drawn:=hm.drawn;have eo:os'=s.os:=hm.os;subst eg;subst ed;subst eo;show wpAny _ _ _ _ _ _;exists 5;show wpAny _ _ (ret Value.none) _ _ _;refine wpAny_pure #[rfl,h',tk',ks,rfl,dX,λj=>?_,by omega,λb o e=>?_]
     ·rw[hmm j,<-dj,List.mem_iff_getElem];constructor
      ·rintro⟨m,hm,e⟩;exact#[m,hm,by rw[<-e,List.getD_eq_getElem?_getD,List.getElem?_eq_getElem hm];rfl]
      ·rintro⟨m,hm,e⟩;exact#[m,hm,by rw[<-e,List.getD_eq_getElem?_getD,List.getElem?_eq_getElem hm];rfl]
     ·have hb:=zAF e;have eO:b≠s.heap.objs.size:=zAI hb
      have fg:b≠%[|49].objs.size:=by
       rw[zAU];exact zAI (zA2 hb)
      exact hm.heap b o (by simp only[zAD,zBZ,zAB,or_false,not_or];exact#[eO,fg]) %[(Heap.get?_push_of_some _ e)|120]
   ·cases r₂ with
    |error e=>exact hr₂
    |ok fl₂=>
     cases fl₂ with
     |ret r=>
      obtain⟨rfl,h',tk,ks,rfl,dX,fC,fU,hk'⟩:=hr₂;exists 18;exact h _ _ _ dX fC fU hk'
     |_=>exact hr₂.elim
  |_=>exact hr.elim
end
section
variable {prog:Program}{w:World}{A:Around}{E:Value->Shared->Prop}{s:Shared}{a:Addr}{ks:List Int}{k:Int}{tk:Tok}
theorem Ia(hS:%[|42] a ks)(h:∀r:%[|34],r.isSome=decide (k∈ks)->(∀i,r=some i->ks[i]? = some k)->Q r s):
  wpAny %[|33] A (setFind a (.int k tk) (hashInt k)) Q E s:=by
 obtain⟨o,es,ep,t,ho,fO,hd,hg,hk,nd,hl,ok,hf⟩:=hS;have hsz:=DE hk;have iW:(intKind prog w).is k (.int k tk)=true:=intKind_is _ _ _ _;unfold setFind setFindIn;refine wpAny_bind (wpAny_setState_of ho hd hf ?_);dsimp only;rw[byScan_of (knd:=intKind prog w) rfl (by rw[hsz];exact C6 hl) hg.elems];simp only[↓reduceIte];refine wpAny_bind (wpAny_rule ?_);refine wpAny_bind (wpAny_setScan_of (knd:=intKind prog w) iW ho hd hf hg.elems ?_)
 cases hr:List.findIdx? (λe=>(intKind prog w).is k e.2) es.toList with
 |none=>
  dsimp only
  have dP:k∉ks:=λz=>by
   rw[<-hk]at z;obtain⟨e,he,rfl⟩:=List.mem_map.mp z;have:=List.findIdx?_eq_none_iff.mp hr e he;rw[(hg.is he).mpr rfl]at this;cases this
  exact wpAny_pure (h none (by rw[decide_eq_false dP];rfl) λi e=>by cases e)
 |some j=>
  dsimp only;obtain⟨hj,hpj,_⟩:=List.findIdx?_eq_some_iff_getElem.mp hr;have e1:Bb es.toList[j]=k:=((hg.is (zCM hj)).mp hpj).symm
  have dP:k∈ks:=by
   rw[<-hk,<-e1];exact zA9 (zCM hj)
  refine wpAny_pure (h (some (0+j)) (by rw[decide_eq_true dP];rfl) λi e=>?_);have e':j=i:=by injection e with e;omega
  subst e';rw[<-hk,List.getElem?_map,List.getElem?_eq_getElem hj,<-e1];rfl
theorem IX(hl:∀b∈l,∃kb,%[|42] b kb)(h:Q true s):%[|31] (setsQuiet l) Q E s:=by
 unfold setsQuiet;exists 1;refine wpAny_forIn_list _ (λrest r s'=>r.1=none/\s'=s/\∀b∈rest,∃kb,%[|42] b kb) _ ?_ ?_ _ _ #[rfl,rfl,hl]
 ·rintro b rest r s' ⟨hr,rfl,hall⟩;obtain⟨kb,o,es,ep,t,ho,fO,hd,hg,hk,nd,hl,ok,hf⟩:=hall b List.mem_cons_self;unfold setEntries;refine wpAny_bind (wpAny_bind (wpAny_setState_of ho hd hf %[|38]));exists 1;refine wpAny_forIn_array' _ (λkq r' s''=>r'.1=none/\s''=s'/\A0X kq) _ ?_ ?_ _ _ #[rfl,rfl,hg]
  ·rintro⟨hh,x⟩ kq r' s' ⟨gC,rfl,g⟩;obtain⟨_,t',e⟩:=g _ List.mem_cons_self;have e':x=.int (Bb (hh,x)) t':=e;rw[e'];exact wpAny_pure #[rfl,rfl,λy hy=>g y %[hy|116]]
  ·rintro⟨r1,r2⟩ s' ⟨gC,rfl,_⟩;simp only at gC;subst gC;exact wpAny_pure #[rfl,rfl,λc hc=>hall c %[hc|116]]
 ·rintro⟨r1,r2⟩ s' ⟨hr,rfl,_⟩;simp only at hr;subst hr;exact wpAny_pure h
theorem Mw(ho:s.heap.get? a=some o)(hd:o.data=.set es ep t)(ok:Gr (Cj w) t)(hf:t.fits es.size=true)(hc:(Cj w || (t.led && t.plain) || decide (es.size<=1))=true)(h:∀dH:Array (Int×Value),dH.toList.Perm es.toList->Q dH s):%[|31] (setWalk a) Q E s:=by
 unfold setWalk setsByText;exists 606;show wpAny _ _ (if Cj w=true then _ else _) _ _ _
 cases hb:Cj w with
 |true=>
  rw[if_pos rfl];refine wpAny_bind (wpAny_askSetting ?_);exact wpAny_pure (h _ (DX _ _))
 |false=>
  rw[if_neg zAG]
  have hn:(!t.plain && decide (es.size>1))=false:=by
   rw[hb,Bool.false_or]at hc
   cases hp:t.plain with
   |true=>rfl
   |false=>
    rw[hp,Bool.and_false,Bool.false_or]at hc;have:=of_decide_eq_true hc;simp;omega
  show wpAny _ _ (if (!t.plain && decide (es.size>1))=true then _ else _) _ _ _;rw[hn,if_neg zAG];exists 1;show wpAny _ _ (if (!t.led && decide (es.size>1))=true then _ else _) _ _ _;rw[ok.led,hb,if_neg %[|1]];exact wpAny_pure (wpAny_pure (h es (zBS _)))
theorem JE{kf:List Int}(hS:%[|42] a ks)(hF:A0I w s.heap f kf)(hO:∀b∈fH,∃kb,%[|42] b kb)(h:∀(dH:Array (Int×Value)) (h':Heap),A0X dH.toList->(dH.toList.map Bb).Perm ks->Heap.SameBut f s.heap h'->A0I w h' f kf->Q dH {s with heap:=h' }):%[|31] (setWalkUnseen a fH (some f)) Q E s:=by
 obtain⟨o,es,ep,t,ho,fO,hd,hg,hk,nd,hl,ok,hf⟩:=id hS
 have stay:∀dH:Array (Int×Value),dH.toList.Perm es.toList->Q dH s:=λdH hp=>by
  have:=h dH s.heap (λe he=>hg e (hp.mem_iff.mp he)) (by rw[<-hk];exact hp.map Bb) (zBB _ _) hF;have e:s={s with heap:=s.heap}:=by cases s;rfl
  rw[e];exact this
 unfold setWalkUnseen setsByText;exists 606;show wpAny _ _ (if (Cj w || (t.led && t.plain) || decide (es.size<=1))=true then _ else _) _ _ _;split
 ·rename_i hc;exact Mw ho hd ok hf hc stay
 ·rename_i hc
  have hb:Cj w=false:=by
   cases q:Cj w with
   |true=>rw[q]at hc;exact absurd rfl hc
   |false=>rfl
  refine wpAny_bind (IX (λb hb=>?_) ?_)
  ·rcases List.mem_cons.mp hb with e|e
   ·subst e;exact#[_,hS]
   ·exact hO b e
  simp only[zCP,zBP,if_false];refine wpAny_bind (wpAny_rule ?_);obtain⟨of,ef,epf,tf,hof,hexf,jD,hgf,hkf,ndf,gk,okf,hff⟩:=id hF;refine wpAny_bind (wpAny_setState_of hof jD hff ?_);dsimp only;split
  ·refine wpAny_bind (wpAny_storeSet_of hof jD ?_ ?_)
   rotate_left
   exact (fits_of_scanBound (by rw[DE hkf];exact C6 gk));have:=(E8 (w:=w) (t':={tf with led:=tf.led && t.led,plain:=tf.plain && t.plain}) hof hexf jD hgf (by rw[hkf];exact ndf) (by rw[DE hkf];exact gk) #[okf.dum,by show (tf.led && t.led)=_;rw[okf.led,ok.led,Bool.and_self],okf.up] hff).2;rw[hkf]at this;exact wpAny_pure (h es _ hg (by rw[hk]) (zAT _ _ _) this)
  ·exact wpAny_pure ((stay es (zBS _)))
theorem Q0(hS:%[|42] a ks)(hO:∀b∈fH,∃kb,%[|42] b kb)(h:∀(dH:Array (Int×Value)),A0X dH.toList->(dH.toList.map Bb).Perm ks->Q dH s):%[|31] (setWalkUnseen a fH none) Q E s:=by
 obtain⟨o,es,ep,t,ho,fO,hd,hg,hk,nd,hl,ok,hf⟩:=id hS
 have stay:∀dH:Array (Int×Value),dH.toList.Perm es.toList->Q dH s:=λdH hp=>
  h dH (λe he=>hg e (hp.mem_iff.mp he)) (by rw[<-hk];exact hp.map Bb)
 unfold setWalkUnseen setsByText;exists 606;show wpAny _ _ (if (Cj w || (t.led && t.plain) || decide (es.size<=1))=true then _ else _) _ _ _;split
 ·rename_i hc;exact Mw ho hd ok hf hc stay
 ·refine wpAny_bind (IX (λb hb=>?_) ?_)
  ·rcases List.mem_cons.mp hb with e|e
   ·subst e;exact#[_,hS]
   ·exact hO b e
  simp only[zCP,zBP,if_false];refine wpAny_bind (wpAny_rule ?_);exact wpAny_pure (stay es (zBS _))
end
namespace F
theorem entry_set_and:entryFor table "set.__and__"=some Builtin.«frozenset.__and__»:=entryFor_alias (id':="frozenset.__and__") (by kernel_rfl) rfl %[|35] (by kernel_rfl)
theorem entry_set_sub:entryFor table "set.__sub__"=some Builtin.«frozenset.__sub__»:=entryFor_alias (id':="frozenset.__sub__") (by kernel_rfl) rfl %[|35] (by kernel_rfl)
end F
section
variable {prog:Program}{w:World}{A:Around}{E:Value->Shared->Prop}{s:Shared}{a b r:Addr}{ka kb:List Int}{k:Int}{tk:Tok}
theorem Ep(hS:%[|42] a ka)(h:Q ka.length s):%[|31] (Builtin.Frozenset.sizeOf a) Q E s:=by
 obtain⟨o,es,ep,t,ho,fO,hd,hg,hk,nd,hl,ok,hf⟩:=hS;unfold Builtin.Frozenset.sizeOf setEntries;refine wpAny_bind (wpAny_bind (wpAny_setState_of ho hd hf %[|38]));rw[DE hk];exact wpAny_pure h
theorem DG(hS:%[|42] a ka)(h:Q true s):%[|31] (Builtin.Frozenset.isAnySet (.ref a)) Q E s:=by
 unfold Builtin.Frozenset.isAnySet;show wpAny _ _ (isInstance (.ref a) (.type "set") >>= _) _ _ _;refine wpAny_bind (wpAny_isInstance hS.typeIs sub_set_self ?_);exact wpAny_pure h
theorem Er(hS:%[|42] a ka)(h:Q (.type "set") s):%[|31] (Builtin.Frozenset.baseOf a) Q E s:=by
 unfold Builtin.Frozenset.baseOf;refine wpAny_bind (wpAny_isInstance hS.typeIs sub_set_self ?_);exact wpAny_pure h
theorem GW(h:Q %[|46] {s with heap:=s.heap.push (Bw w)}):%[|31] (newSet (.type "set")) Q E s:=by
 unfold newSet setsByText;refine wpAny_bind (wpAny_bind (wpAny_askSetting %[|38]));simp only[newObj];refine wpAny_bind (wpAny_alloc %[|38]);exact h
theorem Ff(ho:s.heap.get? a=some o)(hd:o.data=.set es ep t)(hf:t.fits es.size=true)(h:Q ep s):%[|31] (setEpoch a) Q E s:=by
 unfold setEpoch;exact wpAny_bind (wpAny_setState_of ho hd hf (wpAny_pure h))
theorem DH{id:String}(ho:s.heap.get? a=some o)(hd:o.data=.set es ep t)(hf:t.fits es.size=true)(h:Q () s):%[|31] (Builtin.Frozenset.unchanged id a ep) Q E s:=by
 unfold Builtin.Frozenset.unchanged;refine wpAny_bind (Ff ho hd hf ?_);rw[if_neg %[|1]];exact wpAny_pure h
theorem Jd{body:(Int×Value)->PUnit->Sem (ForInStep PUnit)}{p:Int->Bool}{R:PUnit->Shared->Prop}{es:Array (Int×Value)}{kr:List Int}(gr:∀(k:Int) (tk:Tok) (h1:Heap) (k1:List Int) (Q':ForInStep PUnit->Shared->Prop),Heap.SameBut r s.heap h1->A0I w h1 r k1->k1.length+1<2000->
   (∀h' k2,Heap.SameBut r h1 h'->A0I w h' r k2->(∀j,j∈k2↔j∈k1\/(p k=true/\j=k))->k2.length<=k1.length+1->Q' (.yield #[]) {s with heap:=h' })->
   wpAny %[|33] A (body (hashInt k,.int k tk) #[]) Q' E {s with heap:=h1})(hg:A0X es.toList)(hR:A0I w s.heap r kr)(hn:kr.length+es.size<1999)(h:∀h' k2,Heap.SameBut r s.heap h'->A0I w h' r k2->(∀j,j∈k2↔j∈kr\/(p j=true/\j∈es.toList.map Bb))->k2.length<=kr.length+es.size->R #[] {s with heap:=h' }):
  wpAny %[|33] A (forIn es PUnit.unit body) R E s:=by
 refine wpAny_forIn_array' _ (λrest _ s'=>Cd λh1 k1=>Zw (s'={s with heap:=h1}) (Heap.SameBut r s.heap h1) (A0I w h1 r k1) (A0X rest) (k1.length+rest.length<=kr.length+es.size) (∀j,(j∈k1\/(p j=true/\j∈rest.map Bb))↔j∈kr\/(p j=true/\j∈es.toList.map Bb))) _ ?_ ?_ _ _ #[s.heap,kr,by cases s;rfl,zBB _ _,hR,hg,by rw[zAL];exact zAA _,λj=>Iff.rfl]
 ·rintro⟨hh,x⟩ rest u s' ⟨h1,k1,rfl,sb,hS,g,hl,hm⟩;obtain⟨e1,t',e2⟩:=g _ List.mem_cons_self;generalize hk:Bb (hh,x)=k at e1 e2;dsimp only at e1 e2;subst e1;subst e2;rw[zAO]at hl;refine gr k t' h1 k1 _ sb hS %[|0] λh' k2 jk gd dU dG=>?_
  refine#[h',k2,rfl,sb.trans jk,gd,λy hy=>g y %[hy|116],by omega,λj=>?_];rw[<-hm j,dU j,zAS,zAD];constructor
  ·rintro ((z|⟨z1,z2⟩)|⟨z1,z2⟩)
   ·exact .inl z
   ·exact .inr #[by rw[z2];exact z1,.inl (by rw[hk];exact z2)]
   ·exact .inr #[z1,.inr z2]
  ·rintro (z|⟨z1,z2|z2⟩)
   ·exact .inl (.inl z)
   ·exact .inl (.inr #[by rw[<-hk,<-z2];exact z1,by rw[<-hk];exact z2])
   ·exact .inr #[z1,z2]
 ·rintro u s' ⟨h1,k1,rfl,sb,hS,g,hl,hm⟩;refine h h1 k1 sb hS (λj=>?_) (by simpa using hl);rw[<-hm j];simp
theorem EA{h:Heap}{o:Obj}(e:h.get? a=some o):a≠h.objs.size:=zAI (zAF e)
theorem Wm(ha:%[|42] a ka)(hb:%[|42] b kb)(hab:a≠b)(hl:ka.length+kb.length<1990)(h:∀h' k2,A0I w h' s.heap.objs.size k2->(∀j,j∈k2↔j∈ka/\j∈kb)->k2.length<=ka.length+kb.length->(∀c o,s.heap.get? c=some o->h'.get? c=some o)->Q %[|46] {s with heap:=h' }):
  wpAny %[|33] A (binaryOp .BitAnd (.ref a) (.ref b)) Q E s:=by
 refine wpAny_binaryOp_same ha.typeIs hb.typeIs PySem.F.fills_set_and PySem.F.slot_set_and ?_;refine wpAny_call_entry PySem.F.slot_set_and ha.typeIs F.entry_set_and ?_ (PySem.F.args_set_and_2 _ _)
 show wpAny _ _ (do
  let (self,dk) <-Builtin.Frozenset.slot1 "__and__" ⟨[.ref a,.ref b],[]⟩
  let (l,r):=if false=true then (dk,self)else (self,dk)
  if !(<-Builtin.Frozenset.isAnySet l <&&> Builtin.Frozenset.isAnySet r)then rule s!"frozenset.{"__and__"}.declined";return <-ret .notImplemented
  ret (<-Builtin.Frozenset.intersection s!"frozenset.{"__and__"}" (<-Builtin.Frozenset.addrOf l) r)) _ _ _
 generalize s!"frozenset.{"__and__"}"=id0;generalize s!"frozenset.{"__and__"}.declined"=id1;show wpAny _ _ ((Builtin.Frozenset.isAnySet (.ref a) <&&> Builtin.Frozenset.isAnySet (.ref b)) >>= _) _ _ _;exists 1;show wpAny _ _ (Builtin.Frozenset.isAnySet (.ref a) >>= _) _ _ _;refine wpAny_bind (DG ha ?_);show wpAny _ _ (Builtin.Frozenset.isAnySet (.ref b)) _ _ _;refine DG hb ?_;simp only[zCP,zBP,if_false];show wpAny _ _ (Builtin.Frozenset.intersection id0 a (.ref b) >>= _) _ _ _;exists 1;unfold Builtin.Frozenset.intersection;rw[if_neg (by intro z;have:=beq_iff_eq.mp z;injection this with this;exact hab this.symm)];refine wpAny_bind (Er ha (wpAny_bind (GW ?_)));show wpAny _ _ (holding _ _ >>= _) _ _ _;refine wpAny_bind (wpAny_holding ?_);have kk:∀c o,s.heap.get? c=some o->%[|49].get? c=some o:=λc o e=>Heap.get?_push_of_some _ e
 have iC:=ha.keep (h':=s.heap.push (Bw w)) λo e=>kk _ _ e
 have eO:=hb.keep (h':=s.heap.push (Bw w)) λo e=>kk _ _ e
 have fJ:A0I w %[|49] s.heap.objs.size []:=A2B;have na:a≠s.heap.objs.size:=let ⟨_,ho⟩:=ha.at_;EA ho
 have nb:b≠s.heap.objs.size:=let ⟨_,ho⟩:=hb.at_;EA ho
 generalize er:s.heap.objs.size=r at*;refine wpAny_bind (DG eO ?_);simp only[if_true];show wpAny _ _ (Builtin.Frozenset.sizeOf b >>= _) _ _ _;refine wpAny_bind (Ep eO ?_);refine wpAny_bind (Ep iC ?_)
 have hp:TN λpa pw kpa kpw=>aW ((if kb.length>ka.length then (b,a)else (a,b))=(pa,pw)) (A0G w %[|49] pa kpa) (A0G w %[|49] pw kpw) (pa≠r) (pw≠r) (∀j,j∈kpa/\j∈kpw↔j∈ka/\j∈kb) (kpw.length<=ka.length+kb.length):=by
  by_cases z:kb.length>ka.length
  ·exact#[b,a,kb,ka,if_pos z,eO,iC,nb,na,λj=>and_comm,Nat.le_add_right _ _]
  ·exact#[a,b,ka,kb,if_neg z,iC,eO,na,nb,λj=>Iff.rfl,Nat.le_add_left _ _]
 obtain⟨pa,pw,kpa,kpw,e,hpa,hpw,npa,npw,hj,hlw⟩:=hp;rw[e];dsimp only;obtain⟨o,es,ep,t,ho,fO,hd,hg,hk,nd,jm,ok,hf⟩:=id hpw;refine wpAny_bind (Ff ho hd hf ?_);refine wpAny_bind (JE hpw fJ (λc hc=>?_) λdH h' hg' eJ sb gC=>?_)
 ·simp only[zAD,zAB,or_false]at hc;rcases hc with rfl|rfl
  ·exact#[_,hpa]
  ·exact#[_,fJ.it]
 have hsz:dH.size=kpw.length:=by rw[<-eJ.length_eq,List.length_map,zAL]
 refine wpAny_bind (wpAny_mono (Jd (r:=r) (p:=λj=>decide (j∈kpa)) (R:=λ_ s'=>Cd λh' k2=>Il (s'={s with heap:=h' }) (Heap.SameBut r %[|49] h') (A0I w h' r k2) (∀j,j∈k2↔j∈ka/\j∈kb) (k2.length<=ka.length+kb.length)) ?_ hg' gC (by rw[hsz];simp;omega) λh2 k2 jk gd dU dG=>#[h2,k2,rfl,sb.trans jk,gd,λj=>?_,by rw[hsz]at dG;simp at dG;omega]) ?_ λ_ _ h'=>h')
 ·intro k tk h1 k1 Q' iL iB eC hQ;have hpa1:A0G w h1 pa kpa:=hpa.keep λo e=>by rw[iL.2 _ npa,sb.2 _ npa];exact e
  exists 1;refine wpAny_holding ?_;refine wpAny_bind (Ia (s:={s with heap:=h1}) hpa1 λrr ku _=>?_)
  have dI:∀h' k2,Heap.SameBut r h1 h'->A0I w h' r k2->(∀j,j∈k2↔j∈k1\/(decide (k∈kpa)=true/\j=k))->k2.length<=k1.length+1->wpAny %[|33] A.in1 (Builtin.Frozenset.unchanged id0 pw ep >>= λ_=>pure (ForInStep.yield PUnit.unit)) Q' E {s with heap:=h' }:=λh' k2 iD dX fC fU=>by
   have gN:h'.get? pw=some o:=by rw[iD.2 _ npw,iL.2 _ npw,sb.2 _ npw];exact ho
   exact wpAny_bind (DH (s:={s with heap:=h' }) gN hd hf (wpAny_pure (hQ h' k2 iD dX fC fU)))
  by_cases dP:k∈kpa
  ·rw[ku,decide_eq_true dP,if_pos rfl];refine wpAny_bind (GP (s:={s with heap:=h1}) iB eC λh' k2 iD dX fC fU=>wpAny_pure ?_);exact dI h' k2 iD dX (λj=>by rw[fC j,decide_eq_true dP];simp) fU
  ·rw[ku,decide_eq_false dP,if_neg zAG];exists 5;exact dI h1 k1 (zBB _ _) iB (λj=>by rw[decide_eq_false dP];simp) (zBA _)
 ·rw[dU j];rw[eJ.mem_iff,decide_eq_true_eq,<-hj j];simp
 ·rintro u s' ⟨h',k2,rfl,iD,dX,fC,fU⟩;exists 5;exists 5;refine wpAny_pure #[_,rfl,by simp,?_]
  exact h h' k2 dX fC fU λc o e=>by
   have:c≠r:=by rw[<-er];exact EA e
   rw[iD.2 _ this];exact kk c o e
end
theorem KG{f g:Nat->%[|34]}:∀l:List Nat,(∀x∈l,g x=f x)->l.filterMap g=l.filterMap f
 |[],_=>rfl
 |x::l,h=>by
  have ih:=KG l λy hy=>h y %[hy|116]
  have e:=h x List.mem_cons_self
  cases q:f x with
  |none=>rw[zBJ (e.trans q),zBJ q,ih]
  |some v=>rw[zA8 (e.trans q),zA8 q,ih]
theorem Sv{f g:Nat->%[|34]}{j k:Nat}(hf:f j=none)(hg:g j=some k)(dB:∀x,x≠j->g x=f x):∀l:List Nat,l.Nodup->j∈l->(l.filterMap g).Perm (k::l.filterMap f)
 |[],_,h=>by cases h
 |x::l,nd,h=>by
  have kx:=List.nodup_cons.mp nd;by_cases e:x=j
  ·subst e;have:l.filterMap g=l.filterMap f:=KG l λy hy=>dB y λz=>kx.1 (z ▸ hy)
   rw[zA8 hg,zBJ hf,this]
  ·have hj:j∈l:=by
    rcases List.mem_cons.mp h with z|z
    ·exact absurd z.symm e
    ·exact z
   have ih:=Sv hf hg dB l kx.2 hj;have ex:=dB x e
   cases q:f x with
   |none=>rw[zBJ (ex.trans q),zBJ q];exact ih
   |some v=>rw[zA8 (ex.trans q),zA8 q];exact (ih.cons v).trans (List.Perm.swap _ _ _)
theorem Si{f:Nat->%[|34]}:∀l:List Nat,(∀x∈l,f x≠none)->(l.filterMap f).length=l.length
 |[],_=>rfl
 |x::l,h=>by
  cases q:f x with
  |none=>exact absurd q (h x List.mem_cons_self)
  |some v=>rw[zA8 q,zAO,zAO,Si l λy hy=>h y %[hy|116]]
abbrev Qy(n:Nat)(owner:Array (%[|34])):List Nat:=(List.range n).filterMap λj=>owner.getD j none
def Zy(mask:Nat):Nat->Nat×Nat->Nat×Nat
 |0,x=>x
 |t+1,x=>Zy mask t (SetTable.leap mask x.1 x.2)
theorem Jt{mask:Nat}{owner:Array (%[|34])}{j:Nat}:∀(fuel i p:Nat),SetTable.layClean.free mask owner fuel i p=some j->owner.getD j (some 0)=none
 |0,_,_,h=>by cases h
 |fuel+1,i,p,h=>by
  unfold SetTable.layClean.free at h;split at h
  ·rename_i k e;injection h with h
   subst h;exact Option.isNone_iff_eq_none.mp (List.find?_some (p:=λk=>(owner.getD (i+k) (some 0)).isNone) e)
  ·exact Jt fuel _ _ h
theorem IO{mask:Nat}{owner:Array (%[|34])}:∀(fuel i p t:Nat),t<fuel->owner.getD (Zy mask t (i,p)).1 (some 0)=none->∃j,SetTable.layClean.free mask owner fuel i p=some j
 |0,_,_,t,h,_=>absurd h (zCJ _)
 |fuel+1,i,p,t,h,e=>by
  unfold SetTable.layClean.free;split
  ·exact#[_,rfl]
  ·rename_i q
   cases t with
   |zero=>
    have:=List.find?_eq_none.mp q 0 (List.mem_range.mpr (by unfold SetTable.runEnd;split<;>omega));rw[Nat.add_zero]at this;have e':owner.getD i (some 0)=none:=e;rw[e']at this;exact absurd rfl this
   |succ t=>exact IO fuel _ _ t (zC3 h) e
def OB(mask:Nat):Nat->Nat->Nat->Nat
 |0,_,acc=>acc
 |n+1,i,acc=>OB mask n ((i*5+1)%(mask+1)) (acc ||| 1 <<< i)
theorem LD{mask j:Nat}:∀(n i acc:Nat),(OB mask n i acc).testBit j=true->acc.testBit j=true\/∃t,t<n/\(Zy mask t (i,0)).1=j
 |0,_,_,h=>.inl h
 |n+1,i,acc,h=>by
  rcases LD n _ _ h with z|⟨t,h1,h2⟩
  ·rw[Nat.testBit_or,zBE]at z;rcases z with z|z
   ·exact .inl z
   ·rw[Nat.shiftLeft_eq,Nat.one_mul,Nat.testBit_two_pow]at z;exact .inr #[0,zBH _,of_decide_eq_true z]
  ·refine .inr #[t+1,Nat.succ_lt_succ h1,?_];show (Zy mask t (SetTable.leap mask i 0)).1=j;unfold SetTable.leap;rw[Nat.zero_div,Nat.add_zero];exact h2
def U9(mask:Nat):Prop:=∀i j,i<=mask->j<=mask->∃t,t<mask+1/\(Zy mask t (i,0)).1=j
theorem HK(h:(List.range (mask+1)).all (λi=>OB mask (mask+1) i 0 == 2^(mask+1)-1)=true):U9 mask:=λi j hi hj=>by
 have:=List.all_eq_true.mp h i (List.mem_range.mpr (Nat.lt_succ_of_le hi));have e:=beq_iff_eq.mp this
 have:(OB mask (mask+1) i 0).testBit j=true:=by
  rw[e,Nat.testBit_two_pow_sub_one];exact decide_eq_true (Nat.lt_succ_of_le hj)
 rcases LD _ _ _ this with z|z
 ·rw[Nat.zero_testBit]at z;cases z
 ·exact z
theorem bw:U9 7:=HK %[|35]
theorem ZW:U9 15:=HK %[|35]
theorem ZQ:U9 31:=HK %[|35]
theorem am:U9 63:=HK %[|35]
theorem Yy:U9 127:=HK %[|35]
theorem getD_none{owner:Array (%[|34])}{j:Nat}:owner.getD j (some 0)=none->j<owner.size/\owner.getD j none=none:=λh=>by
 by_cases z:j<owner.size
 ·refine#[z,?_];simp[Array.getD,z]at h ⊢;exact h
 ·simp[Array.getD,z]at h
theorem Sc{mask:Nat}(jO:U9 mask):∀(hs:List Int)(owner:Array (%[|34]))(k:Nat),owner.size=mask+1->(Qy (mask+1) owner).Perm (List.range k)->k+hs.length<=mask+1->(∀h∈hs,SetTable.bits h<32)->
  ∃g6:Array (%[|34]),BV (hs.foldl (λ(acc:Option (Array (%[|34])×Nat)) h=>(do
   let (owner,k) <-acc
   let j <-SetTable.layClean.free mask owner (SetTable.turns mask) (SetTable.bits h%(mask+1)) (SetTable.bits h)
   pure (owner.setIfInBounds j (some k),k+1))) (some (owner,k))=some (g6,k+hs.length)) (g6.size=mask+1) ((Qy (mask+1) g6).Perm (List.range (k+hs.length)))
 |[],owner,k,hz,hp,_,_=>#[owner,rfl,hz,hp]
 |h::hs,owner,k,hz,hp,hl,hb=>by
  rw[zAO]at hl
  have fO:∃j,j<=mask/\owner.getD j none=none:=Classical.byContradiction λz=>by
   have:=Si (f:=λj=>owner.getD j none) (List.range (mask+1)) λx hx e=>z #[x,Nat.le_of_lt_succ (List.mem_range.mp hx),e]
   have e2:=hp.length_eq;rw[zCD]at this e2;change (Qy (mask+1) owner).length=_ at this;omega
  obtain⟨j0,hj0,e0⟩:=fO
  have e0':owner.getD j0 (some 0)=none:=by
   have:j0<owner.size:=by omega
   simp[Array.getD,this]at e0 ⊢;exact e0
  have hb0:=hb h List.mem_cons_self;have hd:SetTable.bits h / 32=0:=Nat.div_eq_of_lt hb0;obtain⟨t,ht,et⟩:=jO ((SetTable.bits h%(mask+1)*5+1)%(mask+1)) j0 (Nat.le_of_lt_succ (Nat.mod_lt _ (zBH _))) hj0
  obtain⟨j,ej⟩:=IO (mask:=mask) (owner:=owner) (SetTable.turns mask) (SetTable.bits h%(mask+1)) (SetTable.bits h) (t+1) (by unfold SetTable.turns;omega) (by
   show owner.getD (Zy mask t (SetTable.leap mask _ _)).1 (some 0)=none
   unfold SetTable.leap
   rw[hd,Nat.add_zero,et]
   exact e0')
  obtain⟨jl,jn⟩:=getD_none (Jt _ _ _ ej)
  have eJ:(Qy (mask+1) (owner.setIfInBounds j (some k))).Perm (List.range (k+1)):=by
   refine (Sv (f:=λj=>owner.getD j none) (g:=λx=>(owner.setIfInBounds j (some k)).getD x none) (j:=j) (k:=k) jn ?_ (λx hx=>?_) _ List.nodup_range (List.mem_range.mpr %[|0])).trans ?_
   ·simp[Array.getD,jl]
   ·simp only[Array.getD_eq_getD_getElem?];rw[Array.getElem?_setIfInBounds_ne (zB hx)]
   ·refine (hp.cons k).trans ?_;rw[List.range_succ (n:=k)];exact List.perm_append_comm (l₁:=[k])
  obtain⟨o',h1,h2,h3⟩:=Sc jO hs (owner.setIfInBounds j (some k)) (k+1) (by rw[Array.size_setIfInBounds];exact hz) eJ %[|0] λy hy=>hb y %[hy|116]
  have ek:k+1+hs.length=k+(hs.length+1):=by omega
  refine#[o',?_,h2,?_]
  ·rw[List.foldl_cons];show List.foldl _ (SetTable.layClean.free mask owner (SetTable.turns mask) (SetTable.bits h%(mask+1)) (SetTable.bits h) >>= _) hs=_;rw[ej,zAO,<-ek];exact h1
  ·rw[zAO,<-ek];exact h3
theorem P6(jO:U9 mask)(finger moves:Nat)(led plain:Bool)(hs:Array Int)(hl:hs.size<=mask)(hb:∀h∈hs.toList,SetTable.bits h<32):
  Cd λt order=>aW (SetTable.laid mask finger moves led plain hs=some (t,order)) (order.toList.Perm (List.range hs.size)) (t.dummies = #v[]) (t.led=led) (Up t.place) (t.place.size=hs.size) (t.mask=mask):=by
 have hr:(Qy (mask+1) (Array.replicate (mask+1) none)).Perm (List.range 0):=by
  have:Qy (mask+1) (Array.replicate (mask+1) none)=[]:=by
   refine List.filterMap_eq_nil_iff.mpr λx hx=>?_
   simp[Array.getD]
  rw[this];exact zBS _
 obtain⟨owner,h1,h2,h3⟩:=Sc jO hs.toList _ 0 Array.size_replicate hr (by rw[zAL];omega) hb;rw[Nat.zero_add,zAL]at h1 h3
 have e:SetTable.layClean mask hs=some owner:=by
  unfold SetTable.layClean;rw[<-Array.foldl_toList];exact congrArg (Option.map (·.1)) h1
 unfold SetTable.laid;rw[e];refine#[_,_,rfl,?_,rfl,rfl,?_,?_,rfl]
 ·show (List.map (λx:Nat×Nat=>x.2) (List.filterMap %[|96] (List.range (mask+1)))).Perm _;rw[zDL]
  have:(λj=>Option.map (λx:Nat×Nat=>x.2) (Option.map (λx=>(j,x)) (owner.getD j none)))=λj=>owner.getD j none:=by
   funext j
   cases owner.getD j none<;>rfl
  rw[this];exact h3
 ·show (List.map (λx:Nat×Nat=>x.fst) (List.filterMap %[|96] (List.range (mask+1)))).toArray.toList.Pairwise (· < ·);rw[zDH];rw[zDL];refine List.Pairwise.filterMap _ (R:=(· < ·)) ?_ zC2;intro a a' dQ b hb b' hb'
  have f:∀{a b:Nat},Option.map (λx:Nat×Nat=>x.1) (Option.map (λx=>(a,x)) (owner.getD a none))=some b->b=a:=λ{a b} e=>by
   cases q:owner.getD a none with
   |none=>rw[q]at e;cases e
   |some y=>rw[q]at e;injection e with e;exact e.symm
  rw[f hb,f hb'];exact dQ
 ·show (List.map (λx:Nat×Nat=>x.fst) (List.filterMap %[|96] (List.range (mask+1)))).toArray.size=_;have e3:=h3.length_eq;rw[zCD]at e3;rw[zAK,List.length_map,<-e3]
  have:∀l:List Nat,(List.filterMap %[|96] l).length=(List.filterMap (λj=>owner.getD j none) l).length:=λl=>by
   induction l with
   |nil=>rfl
   |cons x l ih=>cases q:owner.getD x none with
    |none=>rw[zBJ (by rw[q];rfl),zBJ (f:=λj=>owner.getD j none) q];exact ih
    |some v=>rw[zA8 (by rw[q];rfl),zA8 (f:=λj=>owner.getD j none) q,zAO,zAO,ih]
  exact this _
theorem Ck{α:Type}(xs:Array α)(p:Nat):(SetTable.eraseAt xs p).toList=xs.toList.eraseIdx p:=by
 simp[SetTable.eraseAt,List.extract_eq_take_drop,zCH,List.take_of_length_le]
inductive A2C(w:World)(h:Heap)(a:Addr)(ks:List Int)(m d:Nat):Prop where
 |mk (o es ep t) (_:h.get? a=some o) (_:o.ExactSet) (_:o.data=.set es ep t) (_:A0X es.toList) (_:es.toList.map Bb=ks) (_:ks.Nodup) (_:ks.length<2000) (_:Gr (Cj w) t) (_:t.fits es.size=true) (_:t.mask=m) (_:t.dummies.size<=d)
theorem A2C.it(x:A2C w h a ks m d):A0G w h a ks:=by
 obtain⟨o,es,ep,t,h1,h2,h3,h4,h5,h6,h7,h8,h9,_⟩:=x;exact#[o,es,ep,t,h1,h2,h3,h4,h5,h6,h7,h8,h9]
theorem GL{h:Heap}{o:Obj}{a:Addr}{es dH:Array (Int×Value)}{ep:Nat}{t t':SetTable}(ho:h.get? a=some o)(hd:o.data=.set es ep t):
  (h.update a (Obj.putSet dH t')).get? a=some {o with data:=.set dH (ep+1) t' }:=by
 have:=Heap.get?_update_self (Obj.putSet dH t') ho (by rw[putSet_of dH t' hd];rfl);rw[putSet_of dH t' hd]at this;exact this
theorem NF(h0:0<=k)(h1:k<32):SetTable.bits (hashInt k)<32:=by
 obtain⟨n,rfl⟩:=zBT h0;have hn:n<32:=by omega
 have:∀n:Fin 32,SetTable.bits (hashInt (n.val:Int))<32:=by decide +kernel
 exact this #[n,hn]
section
variable {prog:Program}{w:World}{A:Around}{E:Value->Shared->Prop}{s:Shared}{a b r:Addr}{ka kb ks:List Int}{k:Int}{tk:Tok}
theorem K9(hS:A2C w s.heap a ks m d)(h:∀(bb:Bool) h' eI,Heap.SameBut a s.heap h'->A2C w h' a eI m (d+1)->(∀j,j∈eI↔j∈ks/\j≠k)->eI.length<=ks.length->Q bb {s with heap:=h' }):
  wpAny %[|33] A (setDiscardHashed a (.int k tk) (hashInt k)) Q E s:=by
 obtain⟨o,es,ep,t,ho,fO,hd,hg,hk,nd,hl,ok,hf,em,ed⟩:=id hS;unfold setDiscardHashed;refine wpAny_bind (Ia hS.it λrr ku dN=>?_)
 cases rr with
 |none=>
  have dP:k∉ks:=by
   intro z;rw[decide_eq_true z]at ku;cases ku
  have e:s={s with heap:=s.heap}:=by cases s;rfl
  have:=h false s.heap ks (zBB _ _) #[o,es,ep,t,ho,fO,hd,hg,hk,nd,hl,ok,hf,em,Nat.le_succ_of_le ed] (λj=>#[λz=>#[z,λe=>dP (e ▸ z)],λz=>z.1]) (zAA _);rw[e];exact wpAny_pure this
 |some i=>
  have hki:=dN i rfl;obtain⟨hi,eki⟩:=List.getElem?_eq_some_iff.mp hki;have hsz:=DE hk
  have dE:t.place.size=es.size:=by
   unfold SetTable.fits at hf;exact beq_iff_eq.mp (Bool.and_eq_true_iff.mp hf).1
  have jP:t.place.size+t.dummies.size<=t.mask:=by
   unfold SetTable.fits at hf;exact of_decide_eq_true (Bool.and_eq_true_iff.mp hf).2
  have hip:i<t.place.size:=by omega
  have ik:t.drop i={t with place:=SetTable.eraseAt t.place i,dummies:=SetTable.insertAt t.dummies (SetTable.below t.dummies t.place[i]) t.place[i]}:=by
   unfold SetTable.drop;rw[Array.getElem?_eq_getElem hip]
  have ky:(SetTable.eraseAt es i).toList.map Bb=ks.eraseIdx i:=by
   rw[Ck,<-hk,zCH,zCH,List.map_append,List.map_take,List.map_drop]
  have hpm:=DI ks i hi;rw[eki]at hpm;have kx:=hpm.nodup_iff.mpr nd;have dj:(ks.eraseIdx i).length+1=ks.length:=by rw[<-hpm.length_eq,zAO]
  have hes:(SetTable.eraseAt es i).size=(ks.eraseIdx i).length:=by rw[<-ky,List.length_map,zAL]
  have jL:(SetTable.eraseAt t.place i).size+1=t.place.size:=by
   rw[<-zAL,Ck,zDB,zAL,if_pos hip];omega
  have hds:(SetTable.insertAt t.dummies (SetTable.below t.dummies t.place[i]) t.place[i]).size=t.dummies.size+1:=by
   rw[<-zAL,(SetTable.insertAt_perm _ _ _).length_eq];simp
  dsimp only;refine wpAny_bind (wpAny_setState_of ho hd hf ?_);dsimp only;refine wpAny_bind (wpAny_storeSet_of ho hd ?_ (fits_of_scanBound (by rw[hes];exact C6 %[|0])));refine wpAny_bind (wpAny_point %[|38]);refine h true _ (ks.eraseIdx i) (zAT _ _ _) #[_,_,_,_,GL ho hd,fO,rfl,?_,ky,(List.nodup_cons.mp kx).2,by omega,?_,?_,?_,?_] (λj=>?_) %[|0]
  ·intro e he;rw[Ck]at he;exact hg e (List.mem_of_mem_eraseIdx he)
  ·rw[ik];refine#[ok.led,?_];show (SetTable.eraseAt t.place i).toList.Pairwise (· < ·);rw[Ck];exact List.Pairwise.sublist (List.eraseIdx_sublist _ _) ok.up
  ·rw[ik];unfold SetTable.fits SetTable.fill;show ((SetTable.eraseAt t.place i).size == _ && decide ((SetTable.eraseAt t.place i).size+(SetTable.insertAt t.dummies _ _).size<=t.mask))=true;rw[hds,Bool.and_eq_true_iff];exact#[beq_iff_eq.mpr %[|0],decide_eq_true %[|0]]
  ·rw[ik];exact em
  ·rw[ik];show (SetTable.insertAt t.dummies _ _).size<=d+1;rw[hds];omega
  ·rw[<-hpm.mem_iff,zAD];have hn:=(List.nodup_cons.mp kx).1;constructor
   ·intro z;exact#[.inr z,λe=>hn (e ▸ z)]
   ·rintro⟨z|z,ne⟩
    ·exact absurd z ne
    ·exact z
theorem Oy{es:Array (Int×Value)}{t:SetTable}{order:Array Nat}(hp:order.toList.Perm (List.range es.size)):(order.filterMap (es[·]?)).toList.Perm es.toList:=by
 rw[Array.toList_filterMap];exact (hp.filterMap _).trans (by rw[filterMap_getElem?_range])
end
theorem Vr(n:Nat)(hn:n<=32):∃m,Il (∀led:Bool,(SetTable.fresh 0 0 led).roomFor n=if m=7 then none else some (2*n)) (m≠7->SetTable.sizeAbove (2*n)-1=m) (n<=m) (U9 m) (SetTable.sizeAbove (2*n)<=128):=by
 have key:∀n:Fin 33,(decide (n.val<=4) && decide (n.val*5<21)) || (decide (4<n.val) && decide (21<=n.val*5) && (SetTable.sizeAbove (2*n.val)-1 == 15 || SetTable.sizeAbove (2*n.val)-1 == 31 || SetTable.sizeAbove (2*n.val)-1 == 63 || SetTable.sizeAbove (2*n.val)-1 == 127) && decide (n.val<=SetTable.sizeAbove (2*n.val)-1))=true:=by decide +kernel
 have key2:∀n:Fin 33,SetTable.sizeAbove (2*n.val)<=128:=by decide +kernel
 have hk:=key #[n,by omega];have jp:=key2 #[n,by omega];dsimp only at hk jp;have im:∀led:Bool,(SetTable.fresh 0 0 led).roomFor n=if (0+n)*5>=7*3 then some ((0+n)*2)else none:=λled=>rfl
 by_cases h4:n<=4
 ·refine#[7,λled=>?_,λh=>absurd rfl h,by omega,bw,jp];rw[im,if_neg %[|0],if_pos rfl]
 ·have hgt:¬decide (n<=4)=true:=by simpa using h4
  simp only[zBE,zAX,decide_eq_true_eq,beq_iff_eq]at hk;rcases hk with⟨z,_⟩|⟨⟨⟨_,h21⟩,hm⟩,hnm⟩
  ·exact absurd z h4
  ·have hf:∀m,m≠7->∀led:Bool,(SetTable.fresh 0 0 led).roomFor n=if m=7 then none else some (2*n):=λm hm led=>by
    rw[im,if_pos %[|0],if_neg hm,Nat.zero_add,Nat.mul_comm]
   rcases hm with ((e|e)|e)|e
   ·exact#[15,hf 15 %[|2],λ_=>e,by omega,ZW,jp]
   ·exact#[31,hf 31 %[|2],λ_=>e,by omega,ZQ,jp]
   ·exact#[63,hf 63 %[|2],λ_=>e,by omega,am,jp]
   ·exact#[127,hf 127 %[|2],λ_=>e,by omega,Yy,jp]
section
variable {prog:Program}{w:World}{A:Around}{E:Value->Shared->Prop}{s:Shared}{a b r:Addr}{ka kb ks:List Int}{k:Int}{tk:Tok}
theorem UV(ho:s.heap.get? r=some (Bw w))(hr:∀led:Bool,(SetTable.fresh 0 0 led).roomFor n=if m=7 then none else some (2*n))(hm:m≠7->SetTable.sizeAbove (2*n)-1=m)(jO:U9 m)(gD:SetTable.sizeAbove (2*n)<=128)(h:∀h' o' ep t,Heap.SameBut r s.heap h'->h'.get? r=some o'->o'.ExactSet->o'.data=.set #v[] ep t->t.fits 0=true->t.mask=m->t.place.size=0->t.dummies = #v[]->t.led = !Cj w->Q () {s with heap:=h' }):
  wpAny %[|33] A (setRoomFor r n) Q E s:=by
 unfold setRoomFor;refine wpAny_bind (wpAny_setState_of ho rfl rfl ?_);dsimp only;rw[hr];by_cases z:m=7
 ·rw[if_pos z];dsimp only;have e:s={s with heap:=s.heap}:=by cases s;rfl
  rw[e];exact wpAny_pure (h s.heap _ 0 _ (zBB _ _) ho #[rfl,rfl,rfl] rfl rfl z.symm rfl rfl rfl)
 ·rw[if_neg z];dsimp only;unfold setRelay;refine wpAny_bind (wpAny_setState_of ho rfl rfl ?_);dsimp only;rw[if_neg (by have:=sizeLine_eq;omega)];have fC:=hm z;obtain⟨t,order,e1,hp,hdm,hld,hup,jL,d9⟩:=P6 jO 0 ((SetTable.fresh 0 0 (!Cj w)).movedTo m) (!Cj w) true #v[] (zA5 _) (λh hh=>by simp at hh)
  have e2:(SetTable.fresh 0 0 (!Cj w)).relaid (Array.map (·.1) (#v[]:Array (Int×Value))) (2*n)=some (t,order):=by
   have em:Array.map (·.1) (#v[]:Array (Int×Value)) = #v[]:=by simp
   unfold SetTable.relaid;rw[fC,em];exact e1
  have hop:(order.filterMap ((#v[]:Array (Int×Value))[·]?)) = #v[]:=by
   have:=Oy (t:=t) (es:=#v[]) (order:=order) hp;exact Array.toList_inj.mp (List.perm_nil.mp this)
  have hft:t.fits 0=true:=by
   unfold SetTable.fits SetTable.fill;rw[jL,hdm];rfl
  exists 1;rw[e2];show wpAny _ _ (if (order.filterMap ((#v[]:Array (Int×Value))[·]?)).size != (#v[]:Array (Int×Value)).size then _ else _) _ _ _;rw[hop,if_neg %[|1]];exists 5;dsimp only;refine wpAny_storeSet_of ho rfl ?_ %[|1];exact h _ _ _ _ (zAT _ _ _) (GL ho rfl) #[rfl,rfl,rfl] rfl hft d9 jL hdm hld
theorem Nu(ha:%[|42] a ka)(ho:s.heap.get? r=some (Bw w))(dB:r≠a)(h32:∀j∈ka,0<=j/\j<32)(hl:ka.length<=32)(h:∀h' k2 m,Heap.SameBut r s.heap h'->A2C w h' r k2 m 0->k2.Perm ka->ka.length<=m->Q () {s with heap:=h' }):
  wpAny %[|33] A (setMerge r a) Q E s:=by
 obtain⟨o,es,ep,t,hoa,fO,hd,hg,hk,nd,jm,ok,hf⟩:=id ha;have hsz:=DE hk;unfold setMerge;rw[if_neg (by simpa using dB)];refine wpAny_bind (wpAny_setState_of hoa hd hf ?_);dsimp only;by_cases kA:es.isEmpty=true
 ·rw[if_pos kA];have e0:ka=[]:=List.eq_nil_of_length_eq_zero (by rw[<-hsz];exact Array.isEmpty_iff_size_eq_zero.mp kA);have e:s={s with heap:=s.heap}:=by cases s;rfl
  have:=h s.heap [] 7 (zBB _ _) #[_,#v[],0,_,ho,#[rfl,rfl,rfl],rfl,λe he=>absurd he %[|1],rfl,zBI,by decide,#[rfl,List.Pairwise.nil],rfl,rfl,zAA _] (by rw[e0]) (by rw[e0];decide);rw[e];exact wpAny_pure this
 ·rw[if_neg kA];obtain⟨m,hr,hm,hnm,jO,gD⟩:=Vr es.size %[|0];refine wpAny_bind (UV ho hr hm jO gD λh1 o1 ep1 t1 iL gz hex1 eK hf1 dZ gY hdm1 eC=>?_);have hoa1:h1.get? a=some o:=by rw[iL.2 _ (zB dB)];exact hoa
  refine wpAny_bind (wpAny_setState_of (s:={s with heap:=h1}) gz eK hf1 ?_);dsimp only
  have im:(t1.fill != 0)=false:=by
   unfold SetTable.fill;rw[gY,hdm1];rfl
  unfold SetTable.road;rw[im,if_neg zAG];by_cases hc:(t1.mask == t.mask && t.dummies.isEmpty)=true
  ·rw[if_pos hc];dsimp only;obtain⟨c1,c2⟩:=Bool.and_eq_true_iff.mp hc;refine wpAny_storeSet_of (s:={s with heap:=h1}) gz eK ?_ (fits_of_scanBound (by rw[hsz];exact C6 jm));refine h _ ka m (iL.trans (zAT _ _ _)) #[_,_,_,_,GL gz eK,hex1,rfl,hg,hk,nd,jm,#[?_,ok.up],hf,?_,?_] (zBS _) %[|0]
   ·show (t1.led && t.led)=_;rw[eC,ok.led,Bool.and_self]
   ·show t.mask=m;rw[<-dZ];exact (beq_iff_eq.mp c1).symm
   ·show t.dummies.size<=0;rw[Array.isEmpty_iff_size_eq_zero.mp c2];exact zAA _
  ·rw[if_neg hc];dsimp only;have hsm:(es.map (·.1)).size=es.size:=Array.size_map
   obtain⟨t2,order,e1,hp,hdm,hld,hup,jL,d9⟩:=P6 jO t1.finger t1.moves (t1.led && t.led) (t1.plain && t.plain) (es.map (·.1)) (by rw[hsm];exact hnm) (λhh fG=>by
    rw[Array.toList_map]at fG
    obtain⟨e,he,rfl⟩:=List.mem_map.mp fG
    rw[(hg e he).1]
    have:=h32 (Bb e) (by rw[<-hk];exact zA9 he)
    exact NF this.1 this.2)
   rw[hsm]at hp jL;rw[dZ];have hpe:=Oy (t:=t2) (es:=es) hp;exists 1;rw[e1];have hsz2:(order.filterMap (es[·]?)).size=es.size:=by rw[<-zAL,hpe.length_eq,zAL]
   show wpAny _ _ (if (order.filterMap (es[·]?)).size != es.size then _ else _) _ _ _;rw[if_neg (by rw[hsz2];simp)];exists 5;dsimp only;have hkp:=hpe.map Bb;rw[hk]at hkp;refine wpAny_storeSet_of (s:={s with heap:=h1}) gz eK ?_ (fits_of_scanBound (by rw[hsz2,hsz];exact C6 jm));refine h _ _ m (iL.trans (zAT _ _ _)) #[_,_,_,_,GL gz eK,hex1,rfl,λe he=>hg e (hpe.mem_iff.mp he),rfl,hkp.nodup_iff.mpr nd,by rw[hkp.length_eq];exact jm,#[by rw[hld,eC,ok.led,Bool.and_self],hup],?_,d9,by rw[hdm];exact zAA _] hkp %[|0];unfold SetTable.fits SetTable.fill;rw[jL,hdm,hsz2,d9,Bool.and_eq_true_iff];exact#[beq_self_eq_true _,decide_eq_true (by simpa using hnm)]
end
section
variable {prog:Program}{w:World}{A:Around}{E:Value->Shared->Prop}{s:Shared}{a b r:Addr}{ka kb kr ks:List Int}{k:Int}{tk:Tok}
theorem KD(hr:A2C w s.heap r kr m 0)(hb:%[|42] b kb)(dB:r≠b)(dQ:kb.length<kr.length / 4)(hm:kr.length<=m)(h:∀h' k2,Heap.SameBut r s.heap h'->A0G w h' r k2->(∀j,j∈k2↔j∈kr/\j∉kb)->k2.length<=kr.length->Q () {s with heap:=h' }):
  wpAny %[|33] A (Builtin.Frozenset.differenceUpdate id0 r (.ref b)) Q E s:=by
 unfold Builtin.Frozenset.differenceUpdate;rw[if_neg (by intro z;have:=beq_iff_eq.mp z;injection this with this;exact dB this.symm)];refine wpAny_bind (DG hb ?_);rw[if_pos rfl];obtain⟨o,es,ep,t,ho,fO,hd,hg,hk,nd,jm,ok,hf⟩:=id hb;show wpAny _ _ (Builtin.Frozenset.sizeOf b >>= _) _ _ _;refine wpAny_bind (Ep hb ?_);refine wpAny_bind (Ep hr.it ?_);rw[if_neg %[|0]];refine wpAny_bind (Ff ho hd hf ?_);refine wpAny_bind (wpAny_holding ?_);refine wpAny_bind (Q0 hb (λc hc=>?_) λdH hg' eJ=>?_)
 ·simp only[zAD,zAB,or_false]at hc;subst hc;exact#[_,hr.it]
 have hsz:dH.size=kb.length:=by rw[<-eJ.length_eq,List.length_map,zAL]
 exists 1;refine wpAny_forIn_array' _ (λrest _ s'=>Fb λh1 k1 d=>aW (s'={s with heap:=h1}) (Heap.SameBut r s.heap h1) (A2C w h1 r k1 m d) (d+rest.length=kb.length) (A0X rest) (k1.length<=kr.length) (∀j,(j∈k1/\j∉rest.map Bb)↔j∈kr/\j∉kb)) _ ?_ ?_ _ _ #[s.heap,kr,0,by cases s;rfl,zBB _ _,hr,by rw[zAL,hsz];omega,hg',zAA _,λj=>by rw[eJ.mem_iff]]
 ·rintro⟨hh,x⟩ rest u s' ⟨h1,k1,d,rfl,sb,hS,jj,g,hl,hm⟩;obtain⟨e1,t',e2⟩:=g _ List.mem_cons_self;generalize hk:Bb (hh,x)=k at e1 e2;dsimp only at e1 e2;subst e1;subst e2;rw[zAO]at jj;refine wpAny_bind (wpAny_holding ?_);refine K9 (s:={s with heap:=h1}) hS λbb h2 k2 jk gd dU dG=>?_
  have gN:h2.get? b=some o:=by rw[jk.2 _ (zB dB),sb.2 _ (zB dB)];exact ho
  refine wpAny_bind (DH (s:={s with heap:=h2}) gN hd hf %[|38]);refine#[h2,k2,d+1,rfl,sb.trans jk,gd,by omega,λy hy=>g y %[hy|116],zAC dG hl,λj=>?_];rw[<-hm j,dU j,zAS,zAD,hk];constructor
  ·rintro⟨⟨z1,z2⟩,z3⟩;exact#[z1,λz=>z.elim z2 z3]
  ·rintro⟨z1,z2⟩;exact#[#[z1,λe=>z2 (.inl e)],λe=>z2 (.inr e)]
 ·rintro u s' ⟨h1,k1,d,rfl,sb,hS,jj,g,hl,dU⟩;exists 5;obtain⟨o1,eT,ep1,t1,gz,hex1,eK,fZ,io,nd1,hlk1,i4,hf1,em1,ed1⟩:=id hS;unfold setTidy;refine wpAny_bind (wpAny_setState_of (s:={s with heap:=h1}) gz eK hf1 ?_);dsimp only
  rw[if_neg (by
   unfold SetTable.tooManyDummies
   rw[em1]
   simp only[List.length_nil]at jj
   have:¬t1.dummies.size>m / 4:=by omega
   simpa using this)]
  exact wpAny_pure (h h1 k1 sb hS.it (λj=>by rw[<-dU j];simp) hl)
theorem Ww(ha:%[|42] a ka)(hb:%[|42] b kb)(hab:a≠b)(h32:∀j∈ka,0<=j/\j<32)(hl:ka.length<=32)(hlb:kb.length<=1000)(h:∀h' k2,A0G w h' s.heap.objs.size k2->(∀j,j∈k2↔j∈ka/\j∉kb)->k2.length<=ka.length->(∀c o,s.heap.get? c=some o->h'.get? c=some o)->Q %[|46] {s with heap:=h' }):
  wpAny %[|33] A (binaryOp .Sub (.ref a) (.ref b)) Q E s:=by
 refine wpAny_binaryOp_same ha.typeIs hb.typeIs PySem.F.fills_set_sub PySem.F.slot_set_sub ?_;refine wpAny_call_entry PySem.F.slot_set_sub ha.typeIs F.entry_set_sub ?_ (PySem.F.args_set_sub_2 _ _)
 show wpAny _ _ (do
  let (self,dk) <-Builtin.Frozenset.slot1 "__sub__" ⟨[.ref a,.ref b],[]⟩
  let (l,r):=if false=true then (dk,self)else (self,dk)
  if !(<-Builtin.Frozenset.isAnySet l <&&> Builtin.Frozenset.isAnySet r)then rule s!"frozenset.{"__sub__"}.declined";return <-ret .notImplemented
  ret (<-Builtin.Frozenset.difference s!"frozenset.{"__sub__"}" (<-Builtin.Frozenset.addrOf l) r)) _ _ _
 generalize s!"frozenset.{"__sub__"}"=id0;generalize s!"frozenset.{"__sub__"}.declined"=id1;show wpAny _ _ ((Builtin.Frozenset.isAnySet (.ref a) <&&> Builtin.Frozenset.isAnySet (.ref b)) >>= _) _ _ _;exists 1;show wpAny _ _ (Builtin.Frozenset.isAnySet (.ref a) >>= _) _ _ _;refine wpAny_bind (DG ha ?_);show wpAny _ _ (Builtin.Frozenset.isAnySet (.ref b)) _ _ _;refine DG hb ?_;simp only[zCP,zBP,if_false];show wpAny _ _ (Builtin.Frozenset.difference id0 a (.ref b) >>= _) _ _ _;exists 1;have kk:∀c o,s.heap.get? c=some o->%[|49].get? c=some o:=λc o e=>Heap.get?_push_of_some _ e
 have iC:=ha.keep (h':=s.heap.push (Bw w)) λo e=>kk _ _ e
 have eO:=hb.keep (h':=s.heap.push (Bw w)) λo e=>kk _ _ e
 have fJ:A0I w %[|49] s.heap.objs.size []:=A2B;have hr0:%[|49].get? s.heap.objs.size=some (Bw w):=Heap.get?_push_size _ rfl;have na:a≠s.heap.objs.size:=let ⟨_,ho⟩:=ha.at_;EA ho
 have nb:b≠s.heap.objs.size:=let ⟨_,ho⟩:=hb.at_;EA ho
 have keep:∀h',Heap.SameBut s.heap.objs.size %[|49] h'->∀c o,s.heap.get? c=some o->h'.get? c=some o:=λh' sb c o e=>by
  rw[sb.2 _ (EA e)];exact kk c o e
 unfold Builtin.Frozenset.difference;refine wpAny_bind (DG hb ?_);simp only[zCP,zBP,if_false];show wpAny _ _ (Builtin.Frozenset.sizeOf b >>= _) _ _ _;refine wpAny_bind (Ep hb ?_);refine wpAny_bind (Ep ha ?_);by_cases hbig:ka.length / 4>kb.length
 ·rw[if_pos hbig];refine wpAny_bind (wpAny_rule ?_);unfold Builtin.Frozenset.copyOf;refine wpAny_bind (wpAny_bind (Er ha (wpAny_bind (GW ?_))));show wpAny _ _ (setMerge s.heap.objs.size a >>= _) _ _ _;refine wpAny_bind (Nu (s:={s with heap:=s.heap.push (Bw w)}) iC hr0 (zB na) h32 hl λh1 k1 m iL iB gY dZ=>?_);exists 5;have fg:A0G w h1 b kb:=eO.keep λo e=>by rw[iL.2 _ nb];exact e
  refine wpAny_bind (m:=Builtin.Frozenset.addrOf (Value.ref s.heap.objs.size)) %[|38];refine wpAny_bind (wpAny_holding ?_);show wpAny _ _ (Builtin.Frozenset.differenceUpdate id0 s.heap.objs.size (.ref b)) _ _ _;refine KD (s:={s with heap:=h1}) iB fg (zB nb) (by rw[gY.length_eq];exact hbig) (by rw[gY.length_eq];exact dZ) λh2 k2 jk gd dU dG=>?_
  exists 5;refine wpAny_pure #[_,rfl,by simp,?_];exact h h2 k2 gd (λj=>by rw[dU j,gY.mem_iff]) (by rw[<-gY.length_eq];exact dG) (keep _ (iL.trans jk))
 ·rw[if_neg hbig];refine wpAny_bind (Er ha (wpAny_bind (GW ?_)));show wpAny _ _ (setEpoch a >>= _) _ _ _;obtain⟨o,es,ep,t,ho,fO,hd,hg,hk,nd,jm,ok,hf⟩:=id iC;refine wpAny_bind (Ff (s:={s with heap:=s.heap.push (Bw w)}) ho hd hf ?_);refine wpAny_bind (wpAny_holding ?_);simp only[if_true];refine wpAny_bind (JE (s:={s with heap:=s.heap.push (Bw w)}) iC fJ (λc hc=>?_) λdH h' hg' eJ sb gC=>?_)
  ·simp only[zAD,zAB,or_false]at hc;rcases hc with rfl|rfl
   ·exact#[_,eO]
   ·exact#[_,fJ.it]
  have hsz:dH.size=ka.length:=by rw[<-eJ.length_eq,List.length_map,zAL]
  refine wpAny_bind (wpAny_mono (Jd (s:={s with heap:=h' }) (r:=s.heap.objs.size) (p:=λj=>decide (j∉kb)) (R:=λ_ s'=>Cd λh' k2=>Il (s'={s with heap:=h' }) (Heap.SameBut s.heap.objs.size %[|49] h') (A0I w h' s.heap.objs.size k2) (∀j,j∈k2↔j∈ka/\j∉kb) (k2.length<=ka.length)) ?_ hg' gC (by rw[hsz];simp;omega) λh2 k2 jk gd dU dG=>#[h2,k2,rfl,sb.trans jk,gd,λj=>?_,by rw[hsz]at dG;simpa using dG]) ?_ λ_ _ h'=>h')
  ·intro k tk h1 k1 Q' iL iB eC hQ;have fg:A0G w h1 b kb:=eO.keep λo e=>by rw[iL.2 _ nb,sb.2 _ nb];exact e
   exists 1;refine wpAny_holding ?_;refine wpAny_bind (Ia (s:={s with heap:=h1}) fg λrr ku _=>wpAny_bind %[|38])
   have dI:∀h2 k2,Heap.SameBut s.heap.objs.size h1 h2->A0I w h2 s.heap.objs.size k2->(∀j,j∈k2↔j∈k1\/(decide (k∉kb)=true/\j=k))->k2.length<=k1.length+1->wpAny %[|33] A.in1 (Builtin.Frozenset.unchanged id0 a ep >>= λ_=>pure (ForInStep.yield PUnit.unit)) Q' E {s with heap:=h2}:=λh2 k2 iD dX fC fU=>by
    have gN:h2.get? a=some o:=by rw[iD.2 _ na,iL.2 _ na,sb.2 _ na];exact ho
    exact wpAny_bind (DH (s:={s with heap:=h2}) gN hd hf (wpAny_pure (hQ h2 k2 iD dX fC fU)))
   by_cases dP:k∈kb
   ·rw[ku,decide_eq_true dP,if_neg %[|2]];exists 5;exact dI h1 k1 (zBB _ _) iB (λj=>by rw[decide_eq_false (λz=>z dP)];simp) (zBA _)
   ·rw[ku,decide_eq_false dP,if_pos %[|2]];refine wpAny_bind (GP (s:={s with heap:=h1}) iB eC λh2 k2 iD dX fC fU=>wpAny_pure ?_);exact dI h2 k2 iD dX (λj=>by rw[fC j,decide_eq_true dP];simp) fU
  ·rw[dU j,eJ.mem_iff,decide_eq_true_eq];simp[and_comm]
  ·rintro u s' ⟨h2,k2,rfl,iD,dX,fC,fU⟩;exists 5;exists 5;refine wpAny_pure #[_,rfl,by simp,?_];exact h h2 k2 dX.it fC fU (keep _ iD)
end
theorem Fq:∀{us:%[|6]}{ns:List Int},Vals %[|28] us->IntsAre us ns
 |_,[],h=>by cases h;exact .nil
 |_,n::ns,h=>by
  cases h with
  |cons r t=>obtain⟨k,rfl⟩:=r;exact .cons n k (Fq t)
theorem FW:∀{l1 l2:List Int},l1.Nodup->(∀x∈l1,x∈l2)->l1.length<=l2.length
 |[],_,_,_=>zA5 _
 |x::l1,l2,nd,h=>by
  have kx:=List.nodup_cons.mp nd;have hx:=h x List.mem_cons_self;have ih:=FW (l1:=l1) (l2:=l2.erase x) kx.2 λy hy=>(List.mem_erase_of_ne (show y≠x fromλe=>kx.1 (e ▸ hy))).mpr (h y %[hy|116])
  rw[List.length_erase_of_mem hx]at ih;have:0<l2.length:=zC4 hx;rw[zAO];omega
section
variable {X:Cx}
inductive GB(w:World)(K:PySem.W.Frag)(xs:List V)(H:Hp)(Q:VK):Prop|mk(l:Addr)(ns:List Int)(_:xs=[.ref l])(_:SqL K H l %[|28])(_:ns.length<1000)(_:∀a,H a=none->Q (.ref a) (upd H a (BE w a (λk=>decide (k∈ns)) ns.length)))
theorem Eo(hc:X.calm=true):Cf X (.type "set") (GB X.w X.K):=by
 exists 4;obtain⟨l,ns,rfl,hq,hn,q⟩:=h;obtain⟨u,rfl,ru⟩:=C3 r;cases ru;obtain⟨its,rv,pl,hz⟩:=I.list hq;have dj:its.length=ns.length:=by rw[<-rv.length,List.length_map]
 refine Qt (w:=X.w) (ns:=ns) (I.ok.hd hc) pl.isList (by rw[zDH];exact Fq rv) (by rw[zAK];omega) λh' tk ks hS hm hl kk=>?_
 refine#[.ref s.heap.objs.size,_,I.laid (t':=tk) (o:=BE X.w s.heap.objs.size (λk=>decide (k∈ns)) ns.length) kk (zAA _) ?_,rfl,q _ (I.hok.fresh (zAA _))];exact En hS (λk=>by rw[decide_eq_true_eq];exact (hm k).symm) hl
inductive Ju(w:World)(x:V)(y:V)(H:Hp)(Q:VK):Prop|mk(a b:Addr)(S T:Int->Bool)(n m:Nat)(_:x=.ref a)(_:y=.ref b)(_:H a=some (BE w a S n))(_:H b=some (BE w b T m))(_:a≠b)(_:n+m<1990)(_:∀r,H r=none->Q (.ref r) (upd H r (BE w r (λk=>S k && T k) n)))
theorem Wt:Dy X (binaryOp .BitAnd) (Ju X.w):=by
 exists 2;obtain⟨a,b,S,T,n,m,rfl,rfl,ha,hb,dB,hnm,q⟩:=h;cases rx;cases ry;obtain⟨ka,hSa,hma,hla⟩:=I.setO ha;obtain⟨kb,hSb,hmb,hlb⟩:=I.setO hb;refine Wm (w:=X.w) hSa.it hSb.it dB %[|0] λh' k2 hS hm hl kk=>?_
 refine#[.ref s.heap.objs.size,_,I.laid (t':=s.toks) (o:=BE X.w s.heap.objs.size (λk=>S k && T k) n) kk (zAA _) ?_,rfl,q _ (I.hok.fresh (zAA _))];refine En hS (λk=>by rw[zAX,hma,hmb,hm k]) (zAC (FW hS.nd λy hy=>((hm y).mp hy).1) hla)
inductive I9(w:World)(x:V)(y:V)(H:Hp)(Q:VK):Prop|mk(a b:Addr)(S T:Int->Bool)(n m:Nat)(_:x=.ref a)(_:y=.ref b)(_:H a=some (BE w a S n))(_:H b=some (BE w b T m))(_:a≠b)(_:n<=32)(_:m<=1000)(_:(∀k,S k=true->0<=k/\k<32))(_:∀r,H r=none->Q (.ref r) (upd H r (QU w r (λk=>S k && !T k) n)))
theorem Vn:Dy X (binaryOp .Sub) (I9 X.w):=by
 exists 2;obtain⟨a,b,S,T,n,m,rfl,rfl,ha,hb,dB,hn,fC,h32,q⟩:=h;cases rx;cases ry;obtain⟨ka,hSa,hma,hla⟩:=I.setO ha;obtain⟨kb,hSb,hmb,hlb⟩:=I.setO hb;refine Ww (w:=X.w) hSa.it hSb.it dB (λj hj=>h32 j ((hma j).mpr hj)) %[|0] %[|0] λh' k2 hS hm hl kk=>?_
 refine#[.ref s.heap.objs.size,_,I.laid (t':=s.toks) (o:=QU X.w s.heap.objs.size (λk=>S k && !T k) n) kk (zAA _) ?_,rfl,q _ (I.hok.fresh (zAA _))];refine VH hS (λk=>?_) %[|0];rw[zAX,hma,hm k,Bool.not_eq_true',<-Bool.not_eq_true,hmb]
end
section
variable {X:Cx}{tg:Expr}{acc:Value}
theorem Uf(I:%[|4])(ha:H a=some (BE X.w a S n))(hn:n+1<2000):
  wpAny %[|18] X.A (call (.builtin "set.add") [.ref a,.int k tk]) (λ_ s'=>%[|16] (upd H a (BE X.w a (λj=>S j || decide (j=k)) (n+1))) s') E s:=by
 obtain⟨ks2,gd,dU,dG⟩:=I.setO ha;refine Lm (w:=X.w) gd %[|0] λh' eI fe dX fC fU=>?_
 have mu:Zz (H a):=by rw[ha];exact True.intro
 refine I.write (x:=a) (e:=a) (t':=s.toks+1) mu (.inl rfl) (λb ob nb eb=>(fe.2 b nb).trans eb) (dX.it.at_) (En dX (λj=>?_) %[|0]);rw[fC j,zBE,decide_eq_true_eq,dU j]
def JX(X:Cx)(dw:%[|22])(dy:Expr)(acc:Value):TR:=λQa s=>%[|20] (GT dw X.env) (λok s1=>if ok=true then wpAny %[|18] X.A (eval dy X.env) (λx s2=>%[|20] (call (.builtin "set.add") [acc,x]) (λ_ s3=>Qa s3) EO s2) EO s1 else Qa s1) EO s
inductive P8(w:World)(acc:Addr)(D:BJ)(σ:St)(x:V)(H1:Hp):Prop|mk(k S n)(_:x=.int k)(_:H1 acc=some (BE w acc S n))(_:n+1<2000)(_:D.nx σ (upd H1 acc (BE w acc (λj=>S j || decide (j=k)) (n+1))))
def MV(w:World)(acc:Addr)(te:TE):TS:=λD σ H=>te σ H (P8 w acc D σ)
theorem RE{dw:%[|22]}{dy:Expr}{ac:Addr}{tc:TT}{te:TE}(dW:X.xe=EO)(hi:Qf X dw tc)(he:PE X dy te):PB X (JX X dw dy (.ref ac)) (Du tc (MV X.w ac te)) where
 mono:=λQa Qb s hq h=>AU h λok s1 h1=>by
  cases ok with
  |false=>exact hq _ h1
  |true=>exact AU h1 λx s2 h2=>AU h2 λ_ s3 h3=>hq _ h3
 run:=λpins s σ H D I h=>by
  have h1:=hi pins s σ H _ I h;rw[dW]at h1;refine AU h1 λok s1 ⟨H1,I1,q1⟩=>?_
  cases ok with
  |false=>exact#[σ,H1,I1,q1.f]
  |true=>
   have gO:MV X.w ac te D σ H1:=q1.t;have h2:=he pins s1 σ H1 _ I1 gO;rw[dW]at h2;refine AU h2 λu s2 ⟨x,H2,I2,r2,k,S,n,ex,hl,hz,q2⟩=>?_
   subst ex;obtain⟨tk,rfl⟩:=r2;exact AU (Uf (E:=EO) I2 hl hz) λ_ s3 I3=>#[σ,_,I3,q2]
theorem J0(dy jE eQ tg df:Expr)(f9 dw:%[|22])(scope:Scope)(pos:Pos)(it acc:Value)(env:Env):
  compTurn (.SetComp dy [#[jE,eQ,f9,0],#[tg,df,dw,0]] scope pos) 1 it acc env=(do
   standAt df.pos
   match <-pyNext it with
   |none=>pure (.done .next)
   |some v=>
    letOwnedTupleGo tg it v
    assign tg env v
    let mut ok:=true
    for c in dw do
     if ok then ok <-isTrue c env (eval c env)
    if ok then
     (do let v <-eval dy env;standAt dy.pos;let _ <-call (.builtin "set.add") [acc,v])
    again (.compLoop (.SetComp dy [#[jE,eQ,f9,0],#[tg,df,dw,0]] scope pos) 1 it acc env)):=by rfl
theorem YY:HT X (.SetComp dy [#[jE,eQ,f9,0],#[tg,df,dw,0]] scope pos) 1 eY acc tg (JX X dw dy acc):=by
 intro s Qd Qa h;rw[J0];exists 20
 cases r with
 |none=>exact wpAny_pure #[rfl,h₁]
 |some v=>
  exists 21
  cases ok with
  |false=>exact wpAny_pure #[rfl,h4]
  |true=>exact wpAny_bind (wpAny_bind (AU h4 λx s₄ h₄=>wpAny_bind (wpAny_standAt (wpAny_bind (AU h₄ λ_ s₅ h₅=>wpAny_pure (wpAny_pure #[rfl,h₅]))))))
theorem Ir(dy tg df d5 di:Expr)(dw dA:%[|22])(scope:Scope)(pos:Pos)(it acc:Value)(env:Env):
  compTurn (.SetComp dy %[|45] scope pos) 0 it acc env=(do
   standAt df.pos
   match <-pyNext it with
   |none=>pure (.done .next)
   |some v=>
    letOwnedTupleGo tg it v
    assign tg env v
    let mut ok:=true
    for c in dw do
     if ok then ok <-isTrue c env (eval c env)
    if ok then
     let x <-eval di env
     standAt di.pos
     let x <-foldedSetIterable di env x
     let _ <-runOwn (.compStart (.SetComp dy %[|45] scope pos) 1 (<-holding [x] (pyIter x)) acc env) env
    again (.compLoop (.SetComp dy %[|45] scope pos) 0 it acc env)):=by rfl
theorem Wx(hs:∀x,foldedSetIterable di X.env x=pure x):
  HT X (.SetComp dy %[|45] scope pos) 0 eY acc tg (Iz X dw (.SetComp dy %[|45] scope pos) di acc):=by
 intro s Qd Qa h;rw[Ir];exists 20
 cases r with
 |none=>exact wpAny_pure #[rfl,h₁]
 |some v=>
  exists 21
  cases ok with
  |false=>exact wpAny_pure #[rfl,h4]
  |true=>
   refine wpAny_bind (AU h4 λx s₄ h₄=>wpAny_bind (wpAny_standAt (wpAny_bind (wpAny_of_eq (hs x) (wpAny_bind (wpAny_holding (AU h₄ λit s₅ h₅=>?_)))))));refine wpAny_bind (wpAny_runOwn (codeAny_mono h₅ λr s₆ h₆=>?_));obtain⟨rfl,h₆⟩:=h₆;exact wpAny_pure #[rfl,h₆]
theorem Wv{dy df d5 di:Expr}{dw dA:%[|22]}{scope:Scope}{pos:Pos}{ac:Addr}{tc:TT}{gS:TI}{g1:TG}{tb1:TS}(dW:X.xe=EO)(hc:X.calm=true)(hi:Qf X dw tc)(hI:PI X d5 di gS)(fZ:PG X d5 g1)(eO:PB X (JX X dA dy (.ref ac)) tb1):
  PB X (Iz X dw (.SetComp dy %[|45] scope pos) di (.ref ac)) (Du tc (NP gS g1 tb1)) where
 mono:=λQa Qb s hq h=>AU h λok s1 h1=>by
  cases ok with
  |false=>exact hq _ h1
  |true=>exact AU h1 λx s2 h2=>AU h2 λit s3 h3=>codeAny_mono h3 λr s4 h4=>#[h4.1,hq _ h4.2]
 run:=λpins s σ H D I h=>by
  have h1:=hi pins s σ H _ I h;rw[dW]at h1;refine AU h1 λok s1 ⟨H1,I1,q1⟩=>?_
  cases ok with
  |false=>exact#[σ,H1,I1,q1.f]
  |true=>
   have gO:NP gS g1 tb1 D σ H1:=q1.t;have h2:=hI pins s1 σ H1 _ I1 gO;rw[dW]at h2;refine AU h2 λu s2 h3=>AU h3 λeY s3 h4=>?_
   obtain⟨it,fp,tn,J,H3,e,I3,T,iV,f3,hR⟩:=h4;subst e;have d7:=CV (e:=.SetComp dy %[|45] scope pos) (d:=1) (D:=D) dW hc YY rfl rfl rfl T fZ eO I3 iV f3 hR;exact Cw (X:=X) rfl rfl rfl (λ_=>rfl) True.intro d7 (T.self _ 0 s3 _ _ iV d7)
end
def UC(w:World)(wi:TI)(js:List (%[|34]))(g:CC->TG)(tb:CC->Addr->TS):TE:=λσ H Q=>wi σ H λJ H1=>∀(c:CC)acc,H1 acc=none->
 Ek J (g c) (tb c acc) {nx:=λ_ H'=>Q (.ref acc) H',rt:=λ_ _=>False} (sub js σ) (upd H1 acc (BE w acc (λ_=>false) 0))
section
variable {X:Cx}{N:List Str}{scope:Scope}{cl:List (Str×Addr)}{js:List (%[|34])}{dy tg df:Expr}{dw:%[|22]}{rest:List Comprehension}{pos:Pos}{wi:TI}{g:CC->TG}{tb:CC->Addr->TS}
theorem QV{WB:CC->Value->TR}(dW:X.xe=EO)(hc:X.calm=true)(hi:PI X tg df wi)(hs:∀x,foldedSetIterable df X.env x=pure x)(gw:closureFor scope X.env=pure cl)(hk:scope.kind=.function)(fE:∀x∈scope.names,x.2=.local->scope.names.lookup x.1=some .local)(dY:∀x∈scope.names,x.2≠.cell)(fR:∀p∈cl,X.env.cells.lookup p.1=some p.2)(hcn:∀x,%[|85]->∃c,cl.lookup x=some c)(ix:Gd X N scope js)(hl:js.length=N.length)(ht:∀c it ac,HT %[|26] (.SetComp dy (#[tg,df,dw,0]::rest) scope pos) 0 it ac tg (WB c ac))(hg:∀c,PG %[|26] tg (g c))(hb:∀c ac,PB %[|26] (WB c (.ref ac)) (tb c ac)):
  PE X (.SetComp dy (#[tg,df,dw,0]::rest) scope pos) (UC X.w wi js g tb):=by
 exists 0;rw[arm_eval_SetComp];have h0:=hi pins s σ H _ I h;refine wpAny_comprehension_free (use:=none) (cl:=cl) rfl hs gw hk fE (AU h0 λv s1 h1=>AU h1 λeY s2 h2=>?_);obtain⟨it,fp,tn,J,H2,e,I2,T,gJ,f2,hR⟩:=h2;subst e;refine GW (wpAny_newFunctionEnv dY (by intro y hy;simp at hy) (λh₁ gx fF=>?_) hk);dsimp only at gx fF ⊢;have I3:=I2.laid (t':=s2.toks) (h':=s2.heap.push (Bw X.w)) (o:=BE X.w s2.heap.objs.size (λ_=>false) 0) (λb ob e=>Heap.get?_push_of_some _ e) (zAA _) (En A2B (λk=>by simp) (zAA _))
 have ij:∀b∈fp,b<s2.heap.objs.size:=λb hb=>by
  obtain⟨o,e,_⟩:=T.obj 0 _ gJ b hb;exact zAF e
 have fpa:∀b∈fp,b≠s2.heap.objs.size:=λb hb=>zAI (ij b hb)
 have f3:∀b∈fp,CP X pins (upd H2 s2.heap.objs.size %[|90]) b:=λb hb=>#[by rw[Af (fpa b hb)];exact (f2 b hb).1,(f2 b hb).2]
 have hR':=hR #[{s2 with heap:=s2.heap.push (Bw X.w)},upd H2 s2.heap.objs.size %[|90],fp] s2.heap.objs.size I2.fresh
 have I4:=I3.cmp (N:=N) (cl:=cl) (js:=js) (t':=s2.toks) f3 (λb hb=>by
  show b<(s2.heap.push _).objs.size
  rw[zAU]
  exact zA2 (ij b hb)) hk fR hcn ix hl gx fF
 have iZ:tn 0 h₁:=T.keep 0 _ _ gJ λb hb o e=>(fF.2 b (by
  rw[zAU]
  exact zAI (zA2 (ij b hb)))).trans %[(Heap.get?_push_of_some _ e)|120]
 have f4:∀b∈fp,CP (X.cmp N scope cl #[{s2 with heap:=s2.heap.push (Bw X.w)},upd H2 s2.heap.objs.size %[|90],fp]) [] (upd H2 s2.heap.objs.size %[|90]) b:=λb hb=>
  #[(f3 b hb).1,(I4.ok.exf b hb).1,I4.ok.exfs b hb,.inl hb,(I4.ok.exf b hb).2,λp hp=>absurd (show p∈([]:%[|19]) from hp) %[|1]]
 have d7:=codeAny_mono (CV (X:=X.cmp N scope cl #[{s2 with heap:=s2.heap.push (Bw X.w)},upd H2 s2.heap.objs.size %[|90],fp]) (e:=.SetComp dy (#[tg,df,dw,0]::rest) scope pos) (d:=0) (acc:=.ref s2.heap.objs.size) (pins:=[]) dW hc (ht _ _ _) rfl rfl rfl T (hg _) (hb _ _) I4 iZ f4 hR') (R':=compPost %[|18] X.A X.xe none %[|51] (.ref s2.heap.objs.size) (s2.heap.push (Bw X.w)).objs.size) (λr s' hq=>by
  obtain⟨rfl,σ',H',J',q⟩:=hq
  obtain⟨m,hn,_⟩:=id J'.loc
  exact#[m,hn,λgU hs''=>#[.ref s2.heap.objs.size,H',I3.uncmp f3 J' hs'',rfl,q]])
 exact Cw (X:=X.cmp N scope cl #[{s2 with heap:=s2.heap.push (Bw X.w)},upd H2 s2.heap.objs.size %[|90],fp]) rfl rfl rfl (λ_=>rfl) True.intro d7 (T.self _ 0 _ _ _ iZ d7)
variable {d5 di:Expr}{dA:%[|22]}{gS:CC->TI}{g1:CC->TG}{tc tc1:CC->TT}{te:CC->TE}
theorem Rs(h:A1D X N scope cl js)(hi:PI X tg df wi)(hg:∀c,PG %[|26] tg (g c))(jF:∀c,Qf %[|26] dw (tc c))(hi1:∀c,PI %[|26] d5 di (gS c))(fZ:∀c,PG %[|26] d5 (g1 c))(hif1:∀c,Qf %[|26] dA (tc1 c))(he:∀c,PE %[|26] dy (te c))(hs1:∀c x,foldedSetIterable di %[|26].env x=pure x:=by intro _ _;rfl)(dW:X.xe=EO:=by rfl)(hc:X.calm=true:=by rfl)(hs:∀x,foldedSetIterable df X.env x=pure x:=by intro _;rfl):
  PE X (.SetComp dy %[|45] scope pos) (UC X.w wi js g λc ac=>Du (tc c) (NP (gS c) (g1 c) (Du (tc1 c) (MV X.w ac (te c))))):=
 QV (WB:=λc ac=>Iz %[|26] dw (.SetComp dy %[|45] scope pos) di ac) dW hc hi hs h.clos h.kind h.names h.cell h.ccl h.hcn h.shr h.len (λc it ac=>Wx (hs1 c)) hg
  λc ac=>Wv (X:=X.cmp N scope cl c) dW hc (jF c) (hi1 c) (fZ c) (RE (X:=X.cmp N scope cl c) dW (hif1 c) (he c))
end
section
variable {X:Cx}
end
def fl:V->Prop
 |.int _|.bl _|.non|.str _|.ref _=>True
 |_=>False
def DS(K:PySem.W.Frag)(H:Hp):Nat->V->V->Prop
 |0,v,u=>v=u/\fl v
 |n+1,v,u=>(v=u/\fl v)\/TN λa b xs ys=>Il (v=.ref a) (u=.ref b) (xs.length=ys.length) (∀(i:Nat) x y,xs[i]? = some x->ys[i]? = some y->DS K H n x y) ((SqL K H a xs/\SqL K H b ys)\/(SqT K H a xs/\SqT K H b ys))
theorem ZJ{K:PySem.W.Frag}{H:Hp}{v:V}(h:fl v):∀{n:Nat},DS K H n v v
 |0=>#[rfl,h]
 |_+1=>.inl #[rfl,h]
theorem FG{K:PySem.W.Frag}{n:Nat}{xs:List V}(h:∀v∈xs,fl v):∀(i:Nat) x y,xs[i]? = some x->xs[i]? = some y->DS K H n x y:=λi x y e1 e2=>by
 rw[e1]at e2;cases e2;exact ZJ (h x (zAJ e1))
section
variable {X:Cx}{pins:%[|19]}{σ:St}{H:Hp}{s:Shared}
theorem OG(e:v=u)(h:fl v)(r1:RelV v v')(r2:RelV u u'):SeqAt.EqAt A s v' u' true:=by
 subst e
 cases v with
 |int k=>
  obtain⟨t,rfl⟩:=r1;obtain⟨t2,rfl⟩:=r2;intro prog w E Q hq;exact wpAny_eqBool_int (by rw[beq_self_eq_true];exact hq)
 |str z=>
  obtain⟨t,rfl⟩:=r1;obtain⟨t2,rfl⟩:=r2;have:=zDJ (A:=A) (s:=s) z t z t2;rw[beq_self_eq_true]at this;exact this
 |bl b=>cases r1;cases r2;exact zB0 _
 |non=>cases r1;cases r2;exact zB0 _
 |ref a=>cases r1;cases r2;exact zB0 _
 |_=>exact h.elim
theorem DY(n:Nat):(List.range n).all (λ_=>true)=true:=by simp
theorem Xl:∀(n:Nat){A:Around},A.units+n<cLine->%[|4]->(∀(v u:V)(v' u':Value),DS X.K H n v u->RelV v v'->RelV u u'->SeqAt.EqAt A s v' u' true)
 |0,A,hu,I=>λv u v' u' h r1 r2=>OG h.1 h.2 r1 r2
 |n+1,A,hu,I=>λv u v' u' h r1 r2=>by
  rcases h with h|⟨a,b,xs,ys,rfl,rfl,hl,hx,hk⟩
  ·exact OG h.1 h.2 r1 r2
  cases r1;cases r2;by_cases hab:a=b
  ·subst hab;exact zB0 _
  have ih:=Xl n (A:=A.in1) (by show A.units+1+n<cLine;omega) I;rcases hk with⟨h1,h2⟩|⟨h1,h2⟩
  ·obtain⟨its,q1,pl,_⟩:=I.list h1;obtain⟨dD,q2,pl2,_⟩:=I.list h2;have l1:=q1.length;have l2:=q2.length
   have:=zDO (e:=λ_=>true) (A:=A) pl.isList pl2.isList (by simp;omega) %[|0] (λj j1 j2=>by
    have j1':j<its.length:=by simpa using j1
    have j2':j<dD.length:=by simpa using j2
    have gL:xs[j]? = some xs[j]:=List.getElem?_eq_getElem %[|0]
    have g7:ys[j]? = some ys[j]:=List.getElem?_eq_getElem %[|0]
    obtain⟨u1,e1,ru1⟩:=q1.get gL
    obtain⟨u2,e2,ru2⟩:=q2.get g7
    have jK:its.toArray[j]=u1:=by
     have:=List.getElem?_eq_getElem j1'
     rw[this]at e1
     simpa using zAH e1
    have fD:dD.toArray[j]=u2:=by
     have:=List.getElem?_eq_getElem j2'
     rw[this]at e2
     simpa using zAH e2
    rw[jK,fD]
    exact ih _ _ _ _ (hx j _ _ gL g7) ru1 ru2)
   rw[DY]at this;exact zDK hab this
  ·obtain⟨its,q1,pl,_⟩:=I.tuple h1;obtain⟨dD,q2,pl2,_⟩:=I.tuple h2;have l1:=q1.length;have l2:=q2.length
   have:=SeqAt.RcAt.tuples (e:=λ_=>true) (A:=A) pl pl2 %[|0] (λj j1 j2=>by
    have j1':j<its.length:=by simpa using j1
    have j2':j<dD.length:=by simpa using j2
    have gL:xs[j]? = some xs[j]:=List.getElem?_eq_getElem %[|0]
    have g7:ys[j]? = some ys[j]:=List.getElem?_eq_getElem %[|0]
    obtain⟨u1,e1,ru1⟩:=q1.get gL
    obtain⟨u2,e2,ru2⟩:=q2.get g7
    have jK:its.toArray[j]=u1:=by
     have:=List.getElem?_eq_getElem j1'
     rw[this]at e1
     simpa using zAH e1
    have fD:dD.toArray[j]=u2:=by
     have:=List.getElem?_eq_getElem j2'
     rw[this]at e2
     simpa using zAH e2
    rw[jK,fD]
    exact ih _ _ _ _ (hx j _ _ gL g7) ru1 ru2)
   rw[DY,Bool.true_and,show (its.toArray.size == dD.toArray.size)=true by simp;omega]at this;exact zDK hab this
theorem Ua(hu:A.units+n<cLine)(I:%[|4])(q1:Vals xs its)(q2:Vals ys dD)(hl:xs.length=ys.length)(hx:∀(i:Nat) x y,xs[i]? = some x->ys[i]? = some y->DS X.K H n x y):
  ∀j (h1:j<its.toArray.size) (h2:j<dD.toArray.size),SeqAt.EqAt A s its.toArray[j] dD.toArray[j] true:=λj j1 j2=>by
 have l1:=q1.length;have l2:=q2.length;have j1':j<its.length:=by simpa using j1
 have j2':j<dD.length:=by simpa using j2
 have gL:xs[j]? = some xs[j]:=List.getElem?_eq_getElem %[|0];have g7:ys[j]? = some ys[j]:=List.getElem?_eq_getElem %[|0];obtain⟨u1,e1,ru1⟩:=q1.get gL;obtain⟨u2,e2,ru2⟩:=q2.get g7
 have jK:its.toArray[j]=u1:=by
  have:=List.getElem?_eq_getElem j1';rw[this]at e1
  simpa using zAH e1
 have fD:dD.toArray[j]=u2:=by
  have:=List.getElem?_eq_getElem j2';rw[this]at e2
  simpa using zAH e2
 rw[jK,fD];exact Xl n hu I _ _ _ _ (hx j _ _ gL g7) ru1 ru2
inductive ck(K:PySem.W.Frag)(r:Bool)(x:V)(y:V)(H:Hp)(Q:VK):Prop|mk(a b xs ys)(_:x=.ref a)(_:y=.ref b)(_:xs.length=ys.length)(_:(∀(i:Nat) x y,xs[i]? = some x->ys[i]? = some y->DS K H 3 x y))(_:((SqL K H a xs/\SqL K H b ys)\/(SqT K H a xs/\SqT K H b ys)))(_:Q (.bl r) H)
theorem E3(hu:X.A.units+9<cLine):Dy X (compareOp .NotEq) (ck X.K false):=by
 exists 2;obtain⟨a,b,xs,ys,rfl,rfl,hl,hx,hk,q⟩:=h;cases rx;cases ry;rcases hk with⟨h1,h2⟩|⟨h1,h2⟩
 ·obtain⟨its,q1,pl,_⟩:=I.list h1;obtain⟨dD,q2,pl2,_⟩:=I.list h2;have l1:=q1.length;have l2:=q2.length;refine SeqAt.RcNeAt.lists (e:=λ_=>true) pl.isList pl2.isList (by simp;omega) %[|0] (Ua (A:=X.A.in1) (by show X.A.units+1+3<cLine;omega) I q1 q2 hl hx) _ _ _ _ ?_;rw[DY];exact#[.bl false,H,I,rfl,q]
 ·obtain⟨its,q1,pl,_⟩:=I.tuple h1;obtain⟨dD,q2,pl2,_⟩:=I.tuple h2;have l1:=q1.length;have l2:=q2.length;refine SeqAt.RcNeAt.tuples (e:=λ_=>true) pl pl2 %[|0] (Ua (A:=X.A.in1) (by show X.A.units+1+3<cLine;omega) I q1 q2 hl hx) _ _ _ _ ?_;rw[DY,Bool.true_and,show (its.toArray.size == dD.toArray.size)=true by simp;omega];exact#[.bl false,H,I,rfl,q]
theorem A0M.units9(r:A0M k A):A.units+9<cLine:=by have:=r.un;omega
theorem JM{K:PySem.W.Frag}{row:List Int}{n:Nat}:∀(i:Nat) x y,%[|86][i]? = some x->%[|86][i]? = some y->DS K H n x y:=FG λv hv=>by
 obtain⟨k,_,rfl⟩:=List.mem_map.mp hv;trivial
end
end L2
namespace HT2
open PySem L2 PyProof.Rows
theorem BO{K:PySem.W.Frag}{row:List Int}{p:Int->Bool}(hr:SqL K H a %[|86])(dq:H acc=none)(dj:row.length<=900)(ht:∀k,k∈row->∀H2,A0B H H2->∀R:Bool->Hp->Prop,(∀H3,A0B H2 H3->R (p k) H3)->tc (some (.int k)::rest) H2 R)(hd:∀v0 H2,A0B H H2->H2 acc=some (.lst ((row.filter p).map V.int))->D.nx (v0::rest) H2)(v:Option V):
  Ek (Va K a) (Cr 0) (Du tc (Dm acc (WA 0))) D (v::rest) (upd H acc %[|9]):=by
 refine A0 (K:=K) (a:=a) (xs:=row.map V.int) %[(((row.take i).filter p).map V.int)|119] #[v,rfl,Ab dq _,A0A] ?_ ?_ ?_
 ·rintro i σ H2 _ ⟨v0,rfl,s2,_⟩;exact s2.seq hr
 ·rintro i x σ H2 hx ⟨v0,rfl,s2,dL⟩;rw[List.getElem?_map]at hx;obtain⟨k,hk,rfl⟩:=Option.map_eq_some_iff.mp hx;have et:row.take (i+1)=row.take i++[k]:=by rw[zAQ,hk];rfl
  refine ht k (zAJ hk) H2 s2 _ λH3 s3=>?_
  have gE:=s3 _ _ dL
  cases e:p k with
  |false=>
   refine Aw #[_,rfl,s2.trans s3,?_];rw[et,zB8,zCX (by rw[e];simp),zCK,zA6];exact gE
  |true=>
   refine AD #[_,gE,An ?_,?_]
   ·rw[List.length_map];refine zAC (zAV _ _) ?_;rw[zAW];omega
   refine#[_,rfl,Ao (s2.trans s3) dq _,?_];rw[A0A,et,zB8,zCY e,zCK,List.map_append];rfl
 ·rintro σ H2 ⟨v0,rfl,s2,dL⟩;rw[List.length_map,zAP]at dL;exact hd v0 H2 s2 dL
theorem LJ{K:PySem.W.Frag}{xs:List V}{bs:List Bool}(hr:SqL K H a xs)(dq:H acc=none)(dj:xs.length<=900)(hb:bs.length=xs.length)(ht:∀(i:Nat) (x:V) (b:Bool),xs[i]? = some x->bs[i]? = some b->∀H2,A0B H H2->∀R:V->Hp->Prop,(∀H3,A0B H2 H3->R (.bl b) H3)->te (some x::rest) H2 R)(hd:∀v0 H2,A0B H H2->H2 acc=some (.lst (bs.map V.bl))->D.nx (v0::rest) H2)(v:Option V):
  Ek (Va K a) (Cr 0) (Du MB (Dm acc te)) D (v::rest) (upd H acc %[|9]):=by
 refine A0 (K:=K) (a:=a) (xs:=xs) %[((bs.take i).map V.bl)|119] #[v,rfl,Ab dq _,A0A] ?_ ?_ ?_
 ·rintro i σ H2 _ ⟨v0,rfl,s2,_⟩;exact s2.seq hr
 ·rintro i x σ H2 hx ⟨v0,rfl,s2,dL⟩
  have hi:i<bs.length:=by
   have:=%[hx|117].1;omega
  have iA:bs[i]? = some bs[i]:=List.getElem?_eq_getElem hi;have et:bs.take (i+1)=bs.take i++[bs[i]]:=by rw[zAQ,iA];rfl
  refine AD ?_;refine ht i x _ hx iA H2 s2 _ λH3 s3=>?_
  refine#[_,s3 _ _ dL,An ?_,?_]
  ·rw[List.length_map,zAW];omega
  refine#[_,rfl,Ao (s2.trans s3) dq _,?_];rw[A0A,et,List.map_append];rfl
 ·rintro σ H2 ⟨v0,rfl,s2,dL⟩;rw[<-hb,zAP]at dL;exact hd v0 H2 s2 dL
theorem E9{K:PySem.W.Frag}{row:List Int}{f:Int->Bool}(hr:SqL K H a %[|86])(dq:H acc=none)(dj:row.length<=900)(ht:∀k,k∈row->∀H2,A0B H H2->∀R:V->Hp->Prop,(∀H3,A0B H2 H3->R (.bl (f k)) H3)->te (some (.int k)::rest) H2 R)(hd:∀v0 H2,A0B H H2->H2 acc=some (.lst ((row.map f).map V.bl))->D.nx (v0::rest) H2)(v:Option V):
  Ek (Va K a) (Cr 0) (Du MB (Dm acc te)) D (v::rest) (upd H acc %[|9]):=by
 refine A0 (K:=K) (a:=a) (xs:=row.map V.int) %[(((row.take i).map f).map V.bl)|119] #[v,rfl,Ab dq _,A0A] ?_ ?_ ?_
 ·rintro i σ H2 _ ⟨v0,rfl,s2,_⟩;exact s2.seq hr
 ·rintro i x σ H2 hx ⟨v0,rfl,s2,dL⟩;rw[List.getElem?_map]at hx;obtain⟨k,hk,rfl⟩:=Option.map_eq_some_iff.mp hx;have et:row.take (i+1)=row.take i++[k]:=by rw[zAQ,hk];rfl
  refine AD ?_;refine ht k (zAJ hk) H2 s2 _ λH3 s3=>?_
  refine#[_,s3 _ _ dL,An ?_,?_]
  ·rw[List.length_map,List.length_map,zAW];omega
  refine#[_,rfl,Ao (s2.trans s3) dq _,?_];rw[A0A,et,List.map_append,List.map_append];rfl
 ·rintro σ H2 ⟨v0,rfl,s2,dL⟩;rw[List.length_map,zAP]at dL;exact hd v0 H2 s2 dL
theorem Vd(k:Int)(xs:List Int):Oc (.int k) (xs.map V.int)=decide (k∈xs):=by
 unfold Oc
 induction xs with
 |nil=>simp
 |cons x r ih=>
  rw[zAS,zBW,ih]
  have e:MM (.int x) (.int k)=decide (x=k):=by
   show (x == k)=decide (x=k);rfl
  rw[e];by_cases h:x=k
  ·subst h;simp
  ·have h':¬k=x:=λz=>h z.symm
   simp[h,h']
theorem QC(xs:List Int):(xs.map V.int).all C9=true:=by
 induction xs with
 |nil=>rfl
 |cons x r ih=>rw[zAS,zC5,ih];rfl
theorem GO{a b:List Int}(ha:a.Pairwise (· < ·))(hb:b.Pairwise (· < ·))(h:∀k,k∈a↔k∈b):a=b:=by
 have na:a.Nodup:=ha.imp λh=>by omega
 have nb:b.Nodup:=hb.imp λh=>by omega
 have hp:a.Perm b:=(List.perm_ext_iff_of_nodup na nb).mpr h;exact PySem.W.ksm_same hp (ha.imp λh=>by omega) (hb.imp λh=>by omega)
theorem Ze{K:PySem.W.Frag}{k:Int}{row:List Int}(h:%[|70])(q:Q (.bl (decide (k∈row))) H):aX K false (.int k) (.ref r) H Q:=
 #[r,_,rfl,.inl h,rfl,QC _,by rw[<-Vd]at q;exact q]
end HT2
namespace L2
open PySem PySem.Spec PyProof.Rows
section
variable {X:Cx}{N:List Str}{scope:Scope}{cl:List (Str×Addr)}{js:List (%[|34])}{dy tg df:Expr}{dw:%[|22]}{rest:List Comprehension}{pos gb eN:Pos}{wi:TI}{g:CC->TG}{tb:CC->Addr->TS}{i:Nat}{y:Str}
theorem Rc{WB:CC->Value->TR}(dW:X.xe=EO)(hc:X.calm=true)(hi:PI X tg df wi)(hs:∀x,foldedSetIterable df X.env x=pure x)(K:A2A X N scope cl js)(ht:∀c it ac,HT (X.cmk N scope cl c) %[|80] 0 it ac tg (WB c ac))(hg:∀c,PG (X.cmk N scope cl c) tg (g c))(hb:∀c ac,PB (X.cmk N scope cl c) (WB c (.ref ac)) (tb c ac))(hN:X.N.Nodup)(hy:X.N[i]? = some y)(km:UD X.env.scope y)(kn:swapsWith %[|80] (some (.Name y eN)) gb.line X.env=pure true)(hf:X.fn y=true\/X.env.scope.names.lookup y=some .local):
  PS X (.Assign [.Name y eN] %[|80] gb) (Km (Ib wi js g tb) (Cr i)):=by
 exists 7;rw[exec_Assign_Name_used _ _ _ _ kn];refine wpAny_bind (wpAny_standAt (wpAny_bind ?_));rw[arm_evalThenUse_ListComp];have h0:=hi pins s σ H _ I h;refine wpAny_bind (wpAny_mono (wpAny_comprehension_free (use:=some (assign (.Name y eN) X.env)) (Q:=λ_ s'=>SP X pins D .next s') (cl:=cl) rfl hs K.clos K.kind K.names (AU h0 λv s1 h1=>AU h1 λeY s2 h2=>?_)) (λ_ s' hq=>wpAny_pure (wpAny_pure hq)) λ_ _ z=>z);obtain⟨it,fp,tn,J,H2,e,I2,T,gJ,f2,hR⟩:=h2;subst e;refine wpAny_newObj_type (R8 ?_);exists 602
 have I4:=I3.cmk (N:=N) (cl:=cl) (js:=js) (scope:=scope) (t':=s2.toks) f3 (λb hb=>by
  show b<(s2.heap.push _).objs.size
  rw[zAU]
  exact zA2 (ij b hb)) K.kind K.ccl (K.hcn _) (λi x j e1 e2=>(K.mem e1 e2).1) (λi x j e1 e2 k=>Ha _ _ _ _ (K.mem e1 e2).2) K.len rfl
 have iZ:tn 0 (pushCells (%[|65].push {cls:=.type "dict",data:=.dict #v[]}) scope.names):=T.keep 0 _ _ gJ λb hb o e=>pushCells_keeps _ _ _ _ %[(Heap.get?_push_of_some _ e)|120]
 have f4:∀b∈fp,CP (X.cmk N scope cl #[{s2 with heap:=s2.heap.push {cls:=.type "list",data:=.seq ([]:%[|6]).toArray}},upd H2 s2.heap.objs.size %[|9],fp]) [] (upd H2 s2.heap.objs.size %[|9]) b:=λb hb=>
  #[(f3 b hb).1,(I4.ok.exf b hb).1,I4.ok.exfs b hb,.inl hb,(I4.ok.exf b hb).2,λp hp=>absurd (show p∈([]:%[|19]) from hp) %[|1]]
 exists 27
 have d7:=codeAny_mono (CV (X:=X.cmk N scope cl #[{s2 with heap:=s2.heap.push {cls:=.type "list",data:=.seq ([]:%[|6]).toArray}},upd H2 s2.heap.objs.size %[|9],fp]) (e:=.ListComp dy (#[tg,df,dw,0]::rest) scope pos) (d:=0) (acc:=.ref s2.heap.objs.size) (pins:=[]) dW hc (ht _ _ _) rfl rfl rfl T (hg _) (hb _ _) I4 iZ f4 hR') (R':=compPost %[|18] X.A X.xe (some (assign (.Name y eN) X.env)) (λ_ s'=>SP X pins D .next s') (.ref s2.heap.objs.size) %[|65].objs.size) (λr s' hq=>by
  obtain⟨rfl,σ',H',J',q⟩:=hq
  obtain⟨m,hn,_⟩:=id J'.loc
  have I5:%[|16] H' s':=I3.uncmk f3 J' (zBB _ _)
  have nL:%[|65].objs.size≠X.env.locals:=zBO I3.lt
  have nC:∀x c,X.env.cells.lookup x=some c->c≠%[|65].objs.size:=λx c e=>by
   obtain⟨v,o,ho,_⟩:=I3.cell x c e
   exact zAI (lt3 _ _ ho)
  show wpAny _ _ (assign (.Name y eN) X.env (.ref s2.heap.objs.size)) _ _ _
  refine wpAny_assign_Name (F8 I5 hN hy km (v:=.ref s2.heap.objs.size) rfl (λs6 I6 ⟨a,sb,ha⟩=>?_) hf)
  have na:%[|65].objs.size≠a:=by
   rcases ha with z|z
   ·rw[z];exact nL
   ·exact zB (nC _ _ z)
  refine#[m,hn.sameBut sb na,λh7 sb7=>?_]
  refine#[_,H',I6.turned (t':=s6.toks) (it:=%[|65].objs.size) (λb ob nb e=>(sb7.2 b nb).trans e) J'.free nL (.inr (zAC I3.sz (zAA _))) nC (λp hp=>zAI (lt3 _ _ (I3.pin p hp).1)),q])
 exact Cw (X:=X.cmk N scope cl #[{s2 with heap:=s2.heap.push {cls:=.type "list",data:=.seq ([]:%[|6]).toArray}},upd H2 s2.heap.objs.size %[|9],fp]) rfl rfl rfl (λ_=>rfl) True.intro d7 (T.self _ 0 _ _ _ iZ d7)
theorem Qs{tc:CC->TT}{te:CC->TE}(hN:X.N.Nodup)(hy:X.N[i]? = some y)(km:UD X.env.scope y)(h:A2A X N scope cl js)(hi:PI X tg df wi)(hg:∀c,PG (X.cmk N scope cl c) tg (g c))(jF:∀c,Qf (X.cmk N scope cl c) dw (tc c))(he:∀c,PE (X.cmk N scope cl c) dy (te c))(dW:X.xe=EO:=by rfl)(hc:X.calm=true:=by rfl)(hs:∀x,foldedSetIterable df X.env x=pure x:=by intro _;rfl)(kn:swapsWith %[|91] (some (.Name y eN)) gb.line X.env=pure true:=by rfl)(hf:X.fn y=true\/X.env.scope.names.lookup y=some .local:=by first | exact .inl rfl | exact .inr rfl):
  PS X (.Assign [.Name y eN] %[|91] gb) (Km (Ib wi js g λc ac=>Du (tc c) (Dm ac (te c))) (Cr i)):=
 Rc (WB:=λc ac=>ET (X.cmk N scope cl c) dw dy ac) dW hc hi hs h (λc it ac=>Nf) hg (λc ac=>GQ dW (jF c) (he c)) hN hy km kn hf
end
def Fl(CX:IK)(X:Cx)(E:XK)(σ:St):Prop:=∀pins H s e s',%[|4]->CX X.stack H s E e s'->X.xe e s'
def YG(X:Cx)(σ:St)(e:Expr)(t:TE):Prop:=
 ∀pins s H Q,%[|4]->t σ H Q->%[|20] (eval e X.env) %[|51] X.xe s
def XB(X:Cx)(σ:St)(st:List Stmt)(t:TS):Prop:=
 ∀pins s H(D:BJ),%[|4]->t D σ H->%[|20] (execs st X.env) (SP X pins D) X.xe s
section
variable {X:Cx}{CX:IK}{k:Nat}{f:Addr}{fd:FuncData}{ps:List Str}{sp:Sp}{ds:%[|6]}{eH:List V}{E:XK}{σ:St}{x:Str}{e:Expr}{es:%[|22]}{t:TA}{p pos:Pos}
theorem Sg(F:%[|83])(hr:A0M k X.A)(hb:Binds X.K fd ps ds)(hd:Vals eH ds)(hx:Fl CX X E σ)(I:%[|4])(r:Vals vs us)(h:sp (vs++eH) H Q E):%[|20] (call (.ref f) us) %[|51] X.xe s:=by
 have r2:Vals (vs++eH) (us++ds):=r.append hd;have hl:(us++ds).length=ps.length:=by rw[<-r2.length];exact F.len _ _ _ _ h
 refine wpAny_call (codeAny_mono (F.run X.A X.stack s H #[us,[]] (us++ds) (vs++eH) Q E hr I.env0 (hb s us I.kIn hl) r2 h) λr s' hq=>?_)
 cases r with
 |error e=>exact hx pins H s e s' I hq
 |ok fl=>
  cases fl with
  |ret u=>exact I.after hq
  |next=>exact False.elim hq
  |brk=>exact False.elim hq
  |cont=>exact False.elim hq
theorem QH(F:%[|83])(hr:A0M k X.A)(hg:Gl X x)(hm:X.mg x=some (.ref f))(hk:PySem.W.keepIn X.K (.ref f)=true)(hb:Binds X.K fd ps ds)(hd:Vals eH ds)(hx:Fl CX X E σ)(ha:PA X (e::es) t)(fP:%[|48]=false:=by decide)(he:starEach (e::es) X.env=%[|52]::starEach es X.env:=by rfl)(dE:%[|71].any (·.1)=false:=by rfl):
  YG X σ %[|82] (Ph sp eH E t):=by
 intro pins s H Q I h;refine wpAny_Call_Name_kw (Ey I hg hm ?_ fP);refine zCI (h₀:=X.base) I.ok.mod.kin hk (AU (ha pos pins s σ H _ I h) λus s1 ⟨vs,H1,I1,r,q⟩=>#[I1.kIn,?_]) he dE;exact Sg F hr hb hd hx I1 r q
theorem UF(hN:X.N.Nodup)(hi:X.N[i]? = some x)(hx:UD X.env.scope x)(he:YG X σ e te)(hs:swapsWith e (some (.Name x eF)) pos.line X.env=pure false:=by rfl)(hf:X.fn x=true\/X.env.scope.names.lookup x=some .local:=by first | exact .inl rfl | exact .inr rfl | assumption):
  XB X σ [.Assign [.Name x eF] e pos] (Km te (Cr i)):=by
 intro pins s H D I h;refine wpAny_execs_cons (wpAny_Assign_Name (AU (he pins s H _ I h) λv s1 ⟨y,H1,I1,r1,q1⟩=>?_) hs);refine Hq I1 hN hi hx r1 (λs2 I2=>?_) hf;exact wpAny_execs_nil #[_,H1,I2,q1]
end
def Vt(X:Cx)(hs:List ExceptHandler)(t:St->Vo):Prop:=
 ∀pins(D:BJ)(σ:St)a T C dx H s,%[|4]->Vb s.heap a (.ref C) dx T .none->H a=none->H T=none->a≠X.env.locals->a∉X.fs->
  ((T∈X.ex\/X.s₀.heap.objs.size<=T)/\T≠X.env.locals/\(∀x c,X.env.cells.lookup x=some c->c≠T)/\∀p∈X.pn++pins,p.1≠T)->t σ D C dx H->
  wpAny %[|18] X.A (handleBy (.ref a) X.env hs) (SP X pins D) X.xe s
theorem VE:Vt X [] (λ_ _ _ _ _=>False):=λ_ _ _ _ _ _ _ _ _ _ _ _ _ _ _ _ h=>h.elim
def aF(K:PySem.W.Frag)(Dc:Addr)(th:Addr->Obj->TS)(tr:St->Vo):St->Vo:=λσ D C dx H=>∃r,PySem.W.mroIn K C (.ref Dc)=some r/\
 If r (∀a vs sl,H a=none->th a #[.ref C,dx,.fields vs,sl] D σ H) (tr σ D C dx H)
inductive Xa(tb:XK->TS)(th:St->Vo)(D:BJ)(σ:St)(H:Hp):Prop|mk(E:XK)(_:tb E D σ H)(_:∀cls dx H',E cls dx H'->∃C,cls=.ref C/\th σ D C dx H')
section
variable {X:Cx}{Dc:Addr}{i:Nat}{x n:Str}{np fS pos:Pos}{body f6:List Stmt}{b0:Stmt}{tb:XK->TS}{th:Addr->Obj->TS}{hs:List ExceptHandler}{tr:St->Vo}
theorem Zb(hth:∀a oe,PSs (X.caught a oe) (b0::f6) (th a oe))(hr:Vt X hs tr)(hg:Gl X x)(hm:X.mg x=some (.ref Dc))(hD:PySem.W.typeIn X.K (.ref Dc)=some (.type "type"))(cD:(PySem.W.clsIn X.K Dc).isSome=true)(hB:PySem.W.mroIn X.K Dc (.type "BaseException")=some true)(fP:%[|48]=false:=by decide):
  Vt X (.ExceptHandler (some (.Name x np)) none (b0::f6) fS::hs) (aF X.K Dc th tr):=by
 intro pins D σ a T C dx H s J F5 ha hT h1 h2 yT h;obtain⟨r,dZ,h⟩:=h;have ok:=J.ok;obtain⟨vs,sl,oT,ts,e5,e51,ne5,rest5⟩:=id F5;have J6:=J.caught e5 ha h1 h2 (λv z=>by cases z);refine wpAny_handleBy_cons (codeAny_handlers_test (Ey (X:=X.caught a #[.ref C,dx,.fields vs,sl]) J6 hg hm (PySem.W.Looks.here (QO J6.kIn hD cD hB dZ e5 rfl) ?_) fP)) %[|11]
 cases r with
 |false=>exact hr pins D σ a T C dx H s J F5 ha hT h1 h2 yT h.f
 |true=>
  refine codeAny_handlers_suite (WN F5 λh6 S6 F6=>?_)
  have J7:Inv (X.caught a #[.ref C,dx,.fields vs,sl]) pins σ H {s with heap:=h6}:=J6.call' (ch:=[T]) (s':={s with heap:=h6}) rfl ((S6.un H).mono (λb hb=>absurd hb %[|1]) λ_ z=>z)
   (S6.hok J6.hok (λb hb=>absurd hb %[|1]) λb hb=>by rw[List.mem_singleton.mp hb];exact hT) J.bare λb hb=>by
    rw[List.mem_singleton.mp hb];obtain⟨y1,y2,y3,y4⟩:=yT;refine#[y1,y2,y3,λp hp=>?_];rcases List.mem_cons.mp (show p∈(a,(#[.ref C,dx,.fields vs,sl]:Obj))::(X.pn++pins) from hp)with z|z
    ·rw[z];exact zB ne5
    ·exact y4 p z
  refine wpAny_mono (hth a #[.ref C,dx,.fields vs,sl] pins _ _ H D J7 (h.t a vs sl ha)) (λf s9 q=>?_) λ_ _ z=>False.elim z
  cases f with
  |next=>obtain⟨σ9,H9,J9,q9⟩:=q;exact#[σ9,H9,J9.uncaught (ok:=ok),q9]
  |brk=>obtain⟨σ9,H9,J9,q9⟩:=q;exact#[σ9,H9,J9.uncaught (ok:=ok),q9]
  |cont=>obtain⟨σ9,H9,J9,q9⟩:=q;exact#[σ9,H9,J9.uncaught (ok:=ok),q9]
  |ret u=>obtain⟨v,σ9,H9,J9,r9,q9⟩:=q;exact#[v,σ9,H9,J9.uncaught (ok:=ok),r9,q9]
theorem Vv(hb:∀(σ:St) (E:XK) (pn:%[|19]) (Ex:Value->Shared->Prop),Fl (EI X.prog X.w) (X.within pn Ex) E σ->XB (X.within pn Ex) σ body (tb E))(hh:Vt X (h0::hs) tt)(stk:X.stack=X.env::X.outer)(hf:X.env.frame=some X.env.locals):PS X (.Try body (h0::hs) [] [] pos) (Xa tb tt):=by
 exists 7;obtain⟨E,h1,h2⟩:=h;have ok:=I.ok
 let Ex:Value->Shared->Prop:=λe s1=>%[|20] (noteFrame e X.env) (λ_ s2=>%[|20] (setFlight e none) (λ_ s3=>
  wpAny %[|18] X.A (handleBy e X.env (h0::hs)) (SP X pins D) X.xe s3) X.xe s2) X.xe s1
 refine wpAny_Try_except (wpAny_mono (hb σ E (X.pn++pins) Ex ?_ [] s H D (I.within Ex) h1) (λf s1 q=>?_) λe s1 q=>q)
 ·intro ki H2 s2 e s' I2 hx;obtain⟨a,T,cls,dx,H',rfl,os,bare,un,hok,F,ha,hT,la,lT,qe⟩:=hx;obtain⟨C,rfl,hsu⟩:=h2 cls dx H' qe;have J2:=I2.out ok;have un':Un (GU X.stack) [] H2 H' s2.heap s'.heap:=un;have J3:=J2.call' os un' hok bare (λb z=>absurd z %[|1]);have st:=J3.stack;have frm:=ok.frames;have fre:=J3.stkFree;rw[stk]at st frm fre;show wpAny _ _ (noteFrame _ _) _ _ _;refine OC frm st hf F λh4 T4 g8 S4 F4=>WN F4 λh5 S5 F5=>?_
  have two:∀b∈[a,T],s2.heap.objs.size<=b/\H' b=none:=λb hb=>by
   rcases List.mem_cons.mp hb with z|z
   ·rw[z];exact#[la,ha]
   ·rw[List.mem_singleton.mp z];exact#[lT,hT]
  have hT4n:H' T4=none:=J3.hok.fresh g8;have J4:%[|16] H' {s' with heap:=h4}:=J3.call' (ch:=[a,T]) (s':={s' with heap:=h4}) rfl (by rw[stk];exact S4.un H') (S4.hok J3.hok fre λb hb=>(two b hb).2) J3.bare λb hb=>J2.young (two b hb).1
  have J5:%[|16] H' {s' with heap:=h5}:=J4.call' (ch:=[T4]) (s':={s' with heap:=h5}) rfl ((S5.un H').mono (λb hb=>absurd hb %[|1]) λ_ z=>z) (S5.hok J4.hok (λb hb=>absurd hb %[|1]) λb hb=>by rw[List.mem_singleton.mp hb];exact hT4n) J3.bare
   λb hb=>by rw[List.mem_singleton.mp hb];exact J3.young g8
  exact hh pins D σ a T4 C dx H' _ J5 F5 ha hT4n (J2.young la).2.1 (J2.nofs la) (J3.young g8) hsu
 ·cases f with
  |next=>obtain⟨σ',H',I',q'⟩:=q;exact wpAny_execs_nil #[σ',H',I'.out ok,q']
  |brk=>obtain⟨σ',H',I',q'⟩:=q;exact#[σ',H',I'.out ok,q']
  |cont=>obtain⟨σ',H',I',q'⟩:=q;exact#[σ',H',I'.out ok,q']
  |ret u=>obtain⟨v,σ',H',I',r',q'⟩:=q;exact#[v,σ',H',I'.out ok,r',q']
end
section
variable {X:Cx}{Dc:Addr}{i:Nat}{x n:Str}{np fS pos:Pos}{body f6:List Stmt}{b0:Stmt}{tb:XK->TS}{th:Addr->Obj->TS}{hs:List ExceptHandler}{tr:Vo}{pins:%[|19]}{σ:St}{H:Hp}{s:Shared}
end
section
variable {prog:Program}{w:World}{A:Around}{E:Value->Shared->Prop}{s:Shared}{env:Env}
end
section
variable {X:Cx}{tg:Expr}{ah:Addr}{oh:Obj}
end
section
variable {X:Cx}{e tg:Expr}{d:Nat}{acc:Value}{it:Addr}{WB:TR}{tb:TS}{g:TG}{J:It}{fp:%[|3]}{tn:Nat->Heap->Prop}{D:BJ}{pins:%[|19]}{σ:St}{H:Hp}{s:Shared}
end
section
variable {X:Cx}{N:List Str}{scope:Scope}{cl:List (Str×Addr)}{js:List (%[|34])}{dy tg df:Expr}{dw:%[|22]}{rest:List Comprehension}{pos:Pos}{wi:TI}{g:CC->TG}{tb:CC->Addr->TS}
end
theorem Tz(h:Heap)(hb:sysModules<h.objs.size):A0Q P w H (h.push {cls:=.type "dict",data:=.dict #v[]}) h.objs.size (.dK []):=by
 refine#[zA5 _,?_,[],.nil,Heap.DictOf.new h];rw[beq_eq_false_iff_ne];exactλz=>by rw[z]at hb;exact zBN _ hb
def Ve:TE:=λ_ H Q=>∀d,H d=none->Q (.ref d) (upd H d (.dK []))
section
variable {X:Cx}{pos:Pos}
theorem Rw:PE X (.Dict [] [] pos) Ve:=by
 exists 0;have fr:H s.heap.objs.size=none:=I.hok.fresh (zAA _);refine wpAny_Dict_empty #[.ref s.heap.objs.size,upd H s.heap.objs.size (.dK []),?_,rfl,h _ fr];exact I.laid (t':=s.toks) (λb o q=>Heap.get?_push_of_some _ q) (zAA _) (Tz s.heap (zB1 (by decide:sysModules<mainGlobals) (I.mod.glob.keeps I.bk).lt))
inductive GC(xs:List V)(H:Hp)(Q:VK):Prop|mk(i:Int)(_:xs=[.int i])(_:0<=i)(_:i<2^60)(_:Q (.str (toString i)) H)
theorem Jw:Cf X (.type "str") (GC):=by
 exists 4;obtain⟨i,rfl,h0,h1,q⟩:=h;obtain⟨u,rfl,ru⟩:=C3 r;obtain⟨t,rfl⟩:=ru;refine P.str_of_int ?_ #[.str (toString i),H,?_,#[_,rfl],q]
 ·have:i.natAbs<2^60:=by omega
  have h2:i.natAbs.log2<61:=by
   by_cases c:i.natAbs=0
   ·rw[c];decide
   ·exact zAN ((Nat.log2_lt c).mpr this) %[|2]
  omega
 ·exact I.tok _
end
def Fr:%[|17]->Value
 |none=>.none
 |some b=>.bool b
def Hz(k:%[|17])(v:Value):Bool:=match k,v with
 |none,.none=>true
 |some b,.bool c=>b == c
 |_,_=>false
theorem Cu(h:Hz k v=true):v=Fr k:=by
 cases k with
 |none=>cases v<;>simp_all [Hz,Fr]
 |some b=>cases v<;>simp_all [Hz,Fr]
theorem RM(k:%[|17]):Hz k (Fr k)=true:=by
 cases k with
 |none=>rfl
 |some b=>cases b<;>rfl
def Xw:%[|17]->Int
 |none=>0xFCA86420
 |some true=>1
 |some false=>0
section
variable {prog:Program}{w:World}{A:Around}{E:Value->Shared->Prop}{s:Shared}
theorem Ko{T id:String}(hn:pyHash v=pyHashByItsType v)(hv:[v].any Value.onHeap=false)(hT:s.TypeIs v T)(slot:Slot T "__hash__" id)(entry:entryFor table id=some B)(args:argsOk id #[[v],[]])(e:B #[[v],[]]=(do ret (<-mkInt i)))(h0:0<=i)(h1:i<2^62)(h:Q i {s with toks:=s.toks+1}):%[|31] (pyHash v) Q E s:=by
 rw[hn];unfold pyHashByItsType;exists 1;rw[cRoomFor,if_neg (by rw[hv];decide)];exists 5;refine wpAny_bind (wpAny_specialOf hT slot.lookup ?_);rw[if_neg (by rw[beq_builtin_none];decide)];refine wpAny_bind (wpAny_specialOf hT slot.lookup ?_);refine wpAny_bind (wpAny_callSpecialIfBoundUnlessNone?_slot hT slot (wpAny_call_entry slot hT entry ?_ args));rw[e];refine wpAny_ret_mkInt ?_;show wpAny _ _ (if (decide (-(2:Int)^63<=i) && decide (i<2^63))=true then _ else _) Q E _;rw[if_pos (by rw[decide_eq_true %[|0],decide_eq_true %[|0]];rfl)];have e1:(if (i == -1)=true then (-2:Int)else i)=i:=if_neg (by intro z;have:=eq_of_beq z;omega);rw[e1];exact wpAny_pure h
theorem Qr(h:Q (Xw k) {s with toks:=s.toks+1}):%[|31] (pyHash (Fr k)) Q E s:=by
 cases k with
 |none=>exact Ko rfl rfl (PySem.typeIs_none s) F.slot_NoneType_hash F.entry_NoneType_hash (F.args_NoneType_hash_1 _) rfl %[|2] %[|2] h
 |some b=>
  cases b with
  |true=>exact Ko rfl rfl (PySem.typeIs_bool s true) F.slot_bool_hash F.entry_int_hash (F.args_int_hash_1 _) rfl %[|2] %[|2] h
  |false=>exact Ko rfl rfl (PySem.typeIs_bool s false) F.slot_bool_hash F.entry_int_hash (F.args_int_hash_1 _) rfl %[|2] %[|2] h
theorem VP(h:Q (decide (a=b)) s):%[|31] (eqBool (Fr a) (Fr b)) Q E s:=by
 cases a with
 |none=>
  cases b with
  |none=>exact zB0 _ _ _ _ _ h
  |some y=>exact SeqAt.EqAt.none_bool y _ _ _ _ h
 |some x=>
  cases b with
  |none=>exact SeqAt.EqAt.bool_none x _ _ _ _ h
  |some y=>
   refine SeqAt.EqAt.bool_bool x y _ _ _ _ ?_;cases x<;>cases y<;>exact h
end
def LF(prog:Program)(w:World):PySem.KeyKind prog w (%[|17]) where
 is:=Hz
 hash:=Xw
 inj:=λv a b ha hb=>by
  have e:=(Cu ha).symm.trans (Cu hb);cases a<;>cases b<;>simp_all [Fr]
 byValue:=λk v h=>by
  rw[Cu h];cases k<;>rfl
 pyHash:=λhv h=>by
  rw[Cu hv];exact Qr h
 eqBool:=λhu hv h=>by
  rw[Cu hu,Cu hv];exact VP h
 «strs»:=λk x t v h=>by
  cases k<;>cases h
def cf:%[|17]->V
 |none=>.non
 |some b=>.bl b
def Wn(P:Program)(w:World)(K:PySem.W.Frag)(d:Addr)(f:%[|17]->Str):Prop:=
 (d == sysModules)=false/\Cd λ(o:Obj)(vs:List (%[|17]×Value))=>BV (K.lookup d=some o) (o.IsDictOf (LF P w) vs) (∀k,∃t,valueAt vs k=some (.str (f k) t))
section
variable {X:Cx}
inductive XE(P:Program)(w:World)(K:PySem.W.Frag)(x:V)(y:V)(H:Hp)(Q:VK):Prop|mk(d k f)(_:x=.ref d)(_:y=cf k)(_:Wn P w K d f)(_:Q (.str (f k)) H)
theorem VL:XD X (XE X.prog X.w X.K):=by
 exists 17;obtain⟨d,k,f,rfl,rfl,⟨hm,o,vs,hk,hd,hv⟩,q⟩:=h;cases rx
 obtain rfl:u=Fr k:=by
  cases k with
  |none=>exact ry
  |some b=>exact ry
 have hD:s.heap.DictOf (LF X.prog X.w) d vs:=Heap.dictOf_iff.mpr #[o,I.kIn d o hk,hd];obtain⟨t,ev⟩:=hv k;exact tail_any hD.typeIs slot_dict_getitem.lookup (wpAny_getItem_of (RM k) hD.mapOf ev #[.str (f k),H,I.tok _,#[_,rfl],q]) hs
theorem aD{K:PySem.W.Frag}(l:K.lookup dd=some #[.type "dict",none,.dict #v[#[1,.bool true,.str x t1],#[0,.bool false,.str y t2],#[0xFCA86420,.none,.str z t3]] ep,#v[]])(nm:(dd == sysModules)=false)(h1:f (some true)=x)(h2:f (some false)=y)(h3:f none=z):Wn P w K dd f:=by
 refine#[nm,_,[(some true,.str x t1),(some false,.str y t2),(none,.str z t3)],l,#[_,_,#[rfl,rfl,rfl],rfl,λe he=>?_,?_,(by show[some true,some false,none].Nodup;decide)],λk=>?_]
 ·have iy:e=#[1,.bool true,.str x t1]\/e=#[0,.bool false,.str y t2]\/e=#[0xFCA86420,.none,.str z t3]:=by simpa using he
  rcases iy with e1|e1|e1
  ·subst e1;exact#[some true,rfl,rfl]
  ·subst e1;exact#[some false,rfl,rfl]
  ·subst e1;exact#[none,rfl,rfl]
 ·exact .cons rfl rfl (.cons rfl rfl (.cons rfl rfl .nil))
 ·unfold valueAt
  cases k with
  |none=>exact#[t3,by rw[h3];rfl]
  |some b=>
   cases b with
   |true=>exact#[t1,by rw[h1];rfl]
   |false=>exact#[t2,by rw[h2];rfl]
inductive Ol(x:V)(y:V)(H:Hp)(Q:VK):Prop|mk(i j:Int)(r:Addr)(_:x=.int i)(_:y=.ref r)(_:H r=some (.rng 0 j))(_:Q (.bl (!decide (0<=i/\i<j))) H)
theorem QJ(i j:Int):(Builtin.Range.rangePlace? 0 j 1 i).isSome=decide (0<=i/\i<j):=by
 unfold Builtin.Range.rangePlace?;by_cases h1:0<=i
 ·by_cases h2:i<j
  ·simp[h1,h2]
  ·simp[h1,h2]
 ·simp[h1]
theorem Qv:Dy X (compareOp .NotIn) Ol:=by
 exists 2;obtain⟨i,j,r,rfl,rfl,hr,q⟩:=h;exists 3;cases ry;obtain⟨t1,t2,t3,ho⟩:=(show A0Q X.prog X.w H s.heap r (.rng 0 j) from I.hok r _ hr)
 have g:Meets (Builtin.«range.__contains__» #[[.ref r,.int i t],[]]) (λ_ R s=>s.heap.get? r=some {cls:=.type "range",data:=.fields #v[.int 0 t1,.int j t2,.int 1 t3]}/\R (.ok (.ret (.bool (decide (0<=i/\i<j))))) s):=.of_wp λprog w A R s h=>by
  obtain⟨hl,h⟩:=h;unfold Builtin.«range.__contains__»;refine wpAny_bind (wpAny_of_eq rfl ?_);show wpAny _ _ (do rule "range.contains.reckoned";let (a,b,c) <-Builtin.Range.rangeFields (.ref r);ret (.bool (Builtin.Range.rangePlace? a b c i).isSome)) _ _ _;refine wpAny_bind (wpAny_rule ?_);exists 1;unfold Builtin.Range.rangeFields;refine wpAny_bind (wpAny_field hl rfl rfl ?_);refine wpAny_bind (wpAny_of_eq rfl ?_);refine wpAny_bind (wpAny_field hl rfl rfl ?_);refine wpAny_bind (wpAny_of_eq rfl ?_);refine wpAny_bind (wpAny_field hl rfl rfl ?_);refine wpAny_bind (wpAny_of_eq rfl ?_);exists 5;show wpAny _ _ (ret (.bool (Builtin.Range.rangePlace? 0 j 1 i).isSome)) _ _ _;rw[QJ];exact wpAny_pure #[_,rfl,h]
 exact PySem.SeqRoads2.notIn_meets #[_,ho,rfl] F.slot_range_contains F.entry_range_contains (F.args_range_contains_2 _ _) g #[ho,_,rfl,.bl _,H,I,rfl,q]
end
def dS(d:List (Str×V)):List (DO×V):=d.map λp=>(Sum.inr p.1,p.2)
def BH(d:List (Str×V))(k:Str):Option V:=(d.find? λp=>decide (p.1=k)).map (·.2)
def Rt(d:List (Str×V))(k:Str):List (Str×V):=d.filter λp=>decide (p.1≠k)
theorem D4(d:List (Str×V)):(dS d).length=d.length:=List.length_map _
theorem SM(d e:List (Str×V)):dS (d++e)=dS d++dS e:=List.map_append ..
theorem LO:∀{d:List (Str×V)}{vs:List (DO×Value)}(_:KV (dS d) vs)(k:Str),A1N (BH d k) (valueAt vs (.inr k))
 |[],vs,r,k=>by cases r;exact True.intro
 |p::d,vs,r,k=>by
  cases r with
  |@cons _ q _ qs h t=>
   by_cases e:p.1=k
   ·have e':q.1=Sum.inr k:=by rw[<-h.1];exact congrArg Sum.inr e
    have a:BH (p::d) k=some p.2:=by simp[BH,List.find?_cons,e]
    have b:valueAt (q::qs) (.inr k)=some q.2:=by simp[valueAt,List.find?_cons,e']
    rw[a,b];exact h.2
   ·have e':¬q.1=Sum.inr k:=by rw[<-h.1];exactλz=>e (zCQ z)
    have a:BH (p::d) k=BH d k:=by simp[BH,List.find?_cons,e]
    have b:valueAt (q::qs) (.inr k)=valueAt qs (.inr k):=by simp[valueAt,List.find?_cons,e']
    rw[a,b];exact LO t k
theorem Kp:∀{d:List (DO×V)}{vs:List (DO×Value)}{k:DO}{v:V}{u:Value},KV d vs->RelV v u->KV (d++[(k,v)]) (vs++[(k,u)])
 |[],vs,k,v,u,r,ru=>by cases r;exact .cons #[rfl,ru] .nil
 |p::d,vs,k,v,u,r,ru=>by cases r with|cons h t=>exact .cons h (Kp t ru)
theorem TH:∀{d:List (Str×V)}{vs:List (DO×Value)}(_:KV (dS d) vs){k:Str},BH d k=none->(vs.any λkv=>decide (kv.1=Sum.inr k))=false
 |[],vs,r,k,_=>by cases r;rfl
 |p::d,vs,r,k,h0=>by
  cases r with
  |@cons _ q _ qs h t=>
   by_cases e:p.1=k
   ·have a:BH (p::d) k=some p.2:=by simp[BH,List.find?_cons,e]
    rw[a]at h0;exact nomatch h0
   ·have e':¬q.1=Sum.inr k:=by rw[<-h.1];exactλz=>e (zCQ z)
    have a:BH (p::d) k=BH d k:=by simp[BH,List.find?_cons,e]
    rw[zBW,decide_eq_false e',TH t (a ▸ h0)];rfl
theorem Np:∀{d:List (Str×V)}{vs:List (DO×Value)}(_:KV (dS d) vs)(k:Str),KV (dS (Rt d k)) (without vs (.inr k))
 |[],vs,r,k=>by cases r;exact .nil
 |p::d,vs,r,k=>by
  cases r with
  |@cons _ q _ qs h t=>
   unfold Rt without;rw[zBX,zBX];by_cases e:p.1=k
   ·have e':q.1=Sum.inr k:=by rw[<-h.1];exact congrArg Sum.inr e
    rw[if_neg (by simp[e]),if_neg (by simp[e'])];exact Np t k
   ·have e':¬q.1=Sum.inr k:=by rw[<-h.1];exactλz=>e (zCQ z)
    rw[if_pos (by simp[e]),if_pos (by simp[e'])];exact .cons h (Np t k)
theorem OD:∀{d:List (Str×V)}{vs:List (DO×Value)}(_:KV (dS d) vs)(j:Nat)(k:DO)(x:Value),vs[j]? = some (k,x)->∃p,d[j]? = some p/\k=Sum.inr p.1
 |[],vs,r,j,k,x,e=>by cases r;simp at e
 |p::d,vs,r,j,k,x,e=>by
  cases r with
  |@cons _ q _ qs h t=>
   cases j with
   |zero=>
    have e1:q=(k,x):=by simpa using e
    subst e1;exact#[p,rfl,h.1.symm]
   |succ j=>
    obtain⟨p',h1,h2⟩:=OD t j k x (by simpa using e);exact#[p',by simpa using h1,h2]
section
variable {X:Cx}
theorem Fs(I:%[|4])(h:H a=some (.dK (dS d))):
  d.length<=sizeLine/\(a == sysModules)=false/\∃vs,KV (dS d) vs/\s.heap.DictOf (CG X.prog X.w) a vs:=by
 have:=(show A0Q X.prog X.w H s.heap a (.dK (dS d)) from I.hok a _ h);obtain⟨z,m,r⟩:=this;exact#[by rw[<-D4];exact z,m,r]
theorem Ku(I:%[|4])(h:H a=some (.dK (dS d)))(hm:(a == sysModules)=false)(hs:Heap.SameBut a s.heap h')(hd:h'.DictOf (CG X.prog X.w) a vs)(r:KV (dS d') vs)(hl:d'.length<=sizeLine):%[|16] (upd H a (.dK (dS d'))) {s with heap:=h',toks:=t' }:=by
 have he:∃q,h'.get? a=some q:=let ⟨q,_,_,hq,_⟩:=hd;#[q,hq]
 exact I.write (x:=a) (e:=a) (by rw[h];exact True.intro) (.inl rfl) (λb q hb z=>(hs.2 b hb).trans z) he #[by rw[D4];exact hl,hm,vs,r,hd]
inductive Zf(neg:Bool)(x:V)(y:V)(H:Hp)(Q:VK):Prop|mk(a:Addr)(d:List (Str×V))(k:Str)(_:x=.str k)(_:y=.ref a)(_:H a=some (.dK (dS d)))(_:Q (.bl (neg ^^ (BH d k).isSome)) H)
theorem Gx(r:A1N a b):a.isSome=b.isSome:=by
 cases a<;>cases b<;>first|rfl|exact False.elim r
theorem Ye:Dy X (compareOp .In) (Zf false):=by
 exists 2;obtain⟨a,d,k,rfl,rfl,hd,q⟩:=h;exists 3;cases ry;obtain⟨_,hm,vs,r,D⟩:=Fs I hd;refine wpAny_in_of (BM _ _ k t) hm D.mapOf #[.bl _,H,I.tok _,?_,q];rw[Bool.false_xor,Gx (LO r k)];rfl
theorem Q8:Dy X (compareOp .NotIn) (Zf true):=by
 exists 2;obtain⟨a,d,k,rfl,rfl,hd,q⟩:=h;exists 3;cases ry;obtain⟨_,hm,vs,r,D⟩:=Fs I hd;refine wpAny_notIn_of (BM _ _ k t) hm D.mapOf #[.bl _,H,I.tok _,?_,q];rw[Bool.true_xor,Gx (LO r k)];rfl
inductive Xk(a:Addr)(k:Str)(H:Hp)(Q:VK):Prop|mk{d z}(_:H a=some (.dK (dS d)))(_:BH d k=some z)(_:Q z H)
def bT:R2:=λx y H Q=>vR (λa=>vS (λk=>Xk a k H Q) y) x
theorem Az:XD X bT:=by
 exists 17;obtain⟨a,rfl,h0⟩:=C8 h;obtain⟨k,rfl,@⟨d,z,hd,e,q⟩⟩:=Tl h0;cases rx;obtain⟨t,rfl⟩:=ry;obtain⟨_,hm,vs,r,D⟩:=Fs I hd;have hr:=LO r k;rw[e]at hr
 cases ev:valueAt vs (Sum.inr k:DO)with
 |none=>rw[ev]at hr;exact False.elim hr
 |some u'=>
  rw[ev]at hr;exact tail_any D.typeIs slot_dict_getitem.lookup (wpAny_getItem_of (BM _ _ k t) D.mapOf ev #[z,H,I.tok _,hr,q]) hs
inductive XR(o:V)(i:V)(v:V)(H:Hp)(Q:(Hp->Prop)):Prop|mk(a:Addr)(d:List (Str×V))(k:Str)(_:o=.ref a)(_:i=.str k)(_:H a=some (.dK (dS d)))(_:BH d k=none)(_:d.length<=1000)(_:Q (upd H a (.dK (dS (d++[(k,v)])))))
theorem LL:VX X XR:=by
 intro pins s σ H o i v ov iv u Q I ro ri rv h;obtain⟨a,d,k,rfl,rfl,hd,hn,hl,q⟩:=h;cases ro;obtain⟨t,rfl⟩:=ri;obtain⟨hz,hm,vs,r,D⟩:=Fs I hd;have hvl:vs.length=d.length:=by rw[<-zBV r,D4]
 refine wpAny_setItem_pairs (hsz:=by rw[hvl];exact hz) (BM _ _ k t) D λh' D' hs=>#[_,Ku I hd hm hs D' (d':=d++[(k,v)]) ?_ ?_,q]
 ·unfold stored;rw[TH r hn,if_neg zAG,SM];exact Kp r rv
 ·rw[zA];exact zAC (show d.length+1<=1001 by omega) %[|2]
inductive XH(x:V)(vs:List V)(H:Hp)(Q:VK):Prop|mk(a:Addr)(d:List (Str×V))(k:Str)(z:V)(_:x=.ref a)(_:vs=[.str k])(_:H a=some (.dK (dS d)))(_:BH d k=some z)(_:Q z (upd H a (.dK (dS (Rt d k)))))
theorem Wl:ZP X "dict.pop" XH:=by
 exists 15;obtain⟨a,d,k,z,rfl,rfl,hd,e,q⟩:=h;cases rx;obtain⟨u,rfl,ru⟩:=rv.one;obtain⟨t,rfl⟩:=ru;obtain⟨hz,hm,ws,r,D⟩:=Fs I hd;have hvl:ws.length=d.length:=by rw[<-zBV r,D4]
 have hr:=LO r k;rw[e]at hr
 cases ev:valueAt ws (Sum.inr k:DO)with
 |none=>rw[ev]at hr;exact False.elim hr
 |some u'=>
  rw[ev]at hr
  refine call_meetsIn PySem.F.slot_dict_pop D.typeIs PySem.F.entry_dict_pop (PySem.F.args_dict_pop_2 _ _) (meets_dict_pop_there (CG X.prog X.w) a (BM _ _ k t) [] (.inl rfl) rfl)
   #[ws,u',D,by rw[hvl];exact hz,ev,λh' D' hs=>#[z,_,Ku I hd hm hs D' (d':=Rt d k) (Np r k) (zAC (zAV _ _) hz),hr,q]]
inductive Fh(xs:List V)(H:Hp)(Q:VK):Prop|mk(a:Addr)(d:List (Str×V))(_:xs=[.ref a])(_:H a=some (.dK (dS d)))(_:∀l,H l=none->Q (.ref l) (upd H l (.lst (d.map λp=>V.str p.1))))
theorem NG(hc:X.calm=true):Cf X (.type "list") (Fh):=by
 exists 4;obtain⟨a,d,rfl,hd,q⟩:=h;obtain⟨u,rfl,ru⟩:=C3 r;cases ru;obtain⟨hz,hm,vs,rr,D⟩:=Fs I hd;have hvl:vs.length=d.length:=by rw[<-zBV rr,D4]
 obtain⟨o,es,ep,h1,h2,h3,h4,h5,h6⟩:=D;refine PySem.W.kdl_call (PySem.W.kdl_dict (knd:=CG X.prog X.w) (kvs:=vs) (ep:=ep) hm) (I.ok.hd hc) #[o,es,h1,h2,h3,h4,h5,h6] (by rw[hvl];exact hz) λh' tk acc c kk hl hi=>?_
 have lo:s.heap.objs.size<=s.heap.objs.size:=zAA _
 have hv:Vals (d.map λp=>V.str p.1) acc.toList:=by
  have gf:acc.toList.length=d.length:=by rw[zAL,hi.1,hvl]
  refine JV (by simp[gf]) λi x u hx hu=>?_
  obtain⟨k,y,hk,his⟩:=hi.2 i u (by simpa using hu);obtain⟨p,hp,rfl⟩:=OD rr i k y hk
  have ex:x=.str p.1:=by
   rw[List.getElem?_map,hp]at hx;exact (zAH hx).symm
  subst ex;rcases Bm (show L6 (Sum.inr p.1) u=true from his)with⟨_,_,e,_⟩|⟨x,t,e,e'⟩
  ·exact nomatch e
  ·cases e;exact#[t,e']
 refine#[.ref s.heap.objs.size,_,I.laid (t':=tk) (o:=.lst (d.map λp=>V.str p.1)) kk lo ?_,rfl,q _ (I.hok.fresh lo)];exact#[by rw[List.length_map];exact hz,acc.toList,c,hv,by rw[hl,zDC]]
end
def WJ(d:List (Str×V))(k:Str):Bool:=d.any λp=>decide (p.1=k)
def Cv(d:List (Str×V))(k:Str)(v:V):List (Str×V):=if WJ d k=true then d.map (λp=>if p.1=k then (p.1,v)else p)else d++[(k,v)]
theorem R6:∀{d:List (Str×V)}{vs:List (DO×Value)}(_:KV (dS d) vs)(k:Str),(vs.any λkv=>decide (kv.1=Sum.inr k))=WJ d k
 |[],vs,r,k=>by cases r;rfl
 |p::d,vs,r,k=>by
  cases r with
  |@cons _ q _ qs h t=>
   have ih:=R6 t k
   have e:decide (q.1=Sum.inr k)=decide (p.1=k):=by
    rw[zA4,decide_eq_true_iff,decide_eq_true_iff,<-h.1];exact#[λz=>zCQ z,λz=>congrArg Sum.inr z]
   show (decide (q.1=Sum.inr k) || (qs.any λkv=>decide (kv.1=Sum.inr k)))=(decide (p.1=k) || WJ d k);rw[e,ih]
theorem PL:∀{d:List (Str×V)}{vs:List (DO×Value)}{k:Str}{v:V}{u:Value}(_:KV (dS d) vs),RelV v u->KV (dS (d.map λp=>if p.1=k then (p.1,v)else p)) (vs.map λkv=>if kv.1=Sum.inr k then (kv.1,u)else kv)
 |[],vs,k,v,u,r,_=>by cases r;exact .nil
 |p::d,vs,k,v,u,r,ru=>by
  cases r with
  |@cons _ q _ qs h t=>
   have ih:=PL (k:=k) t ru;by_cases e:p.1=k
   ·have e':q.1=Sum.inr k:=by rw[<-h.1];exact congrArg Sum.inr e
    show KV ((Sum.inr (if p.1=k then (p.1,v)else p).1,(if p.1=k then (p.1,v)else p).2)::_) ((if q.1=Sum.inr k then (q.1,u)else q)::_);rw[if_pos e,if_pos e'];exact .cons #[h.1,ru] ih
   ·have e':¬q.1=Sum.inr k:=by rw[<-h.1];exactλz=>e (zCQ z)
    show KV ((Sum.inr (if p.1=k then (p.1,v)else p).1,(if p.1=k then (p.1,v)else p).2)::_) ((if q.1=Sum.inr k then (q.1,u)else q)::_);rw[if_neg e,if_neg e'];exact .cons h ih
theorem Y2(r:KV (dS d) vs)(ru:RelV v u):KV (dS (Cv d k v)) (stored vs (Sum.inr k) u):=by
 unfold Cv stored;rw[R6 r k];by_cases e:WJ d k=true
 ·rw[if_pos e,if_pos e];exact PL r ru
 ·rw[if_neg e,if_neg e,SM];exact Kp r ru
theorem Ug(d:List (Str×V))(k:Str)(v:V):(Cv d k v).length<=d.length+1:=by
 unfold Cv;split
 ·rw[List.length_map];exact zBA _
 ·rw[zA];exact zAA _
section
variable {X:Cx}
inductive Xr(o:V)(i:V)(v:V)(H:Hp)(Q:(Hp->Prop)):Prop|mk(a:Addr)(d:List (Str×V))(k:Str)(_:o=.ref a)(_:i=.str k)(_:H a=some (.dK (dS d)))(_:d.length<=1000)(_:Q (upd H a (.dK (dS (Cv d k v)))))
theorem B4:VX X Xr:=by
 intro pins s σ H o i v ov iv u Q I ro ri rv h;obtain⟨a,d,k,rfl,rfl,hd,hl,q⟩:=h;cases ro;obtain⟨t,rfl⟩:=ri;obtain⟨hz,hm,vs,r,D⟩:=Fs I hd;have hvl:vs.length=d.length:=by rw[<-zBV r,D4]
 refine wpAny_setItem_pairs (hsz:=by rw[hvl];exact hz) (BM _ _ k t) D λh' D' hs=>#[_,Ku I hd hm hs D' (d':=Cv d k v) (Y2 r rv) ?_,q]
 exact zAC (Ug d k v) (zAC (show d.length+1<=1001 by omega) %[|2])
inductive Fn(xs:List V)(H:Hp)(Q:VK):Prop|mk(a:Addr)(d:List (Str×V))(_:xs=[.ref a])(_:H a=some (.dK (dS d)))(_:∀l,H l=none->Q (.ref l) (upd H l (.dK (dS d))))
theorem M9:Cf X (.type "dict") (Fn):=by
 exists 4;obtain⟨a,d,rfl,hd,q⟩:=h;obtain⟨u,rfl,ru⟩:=C3 r;cases ru;obtain⟨hz,hm,vs,rv,D⟩:=Fs I hd;have hvl:vs.length=d.length:=by rw[<-zBV rv,D4]
 have fr:H s.heap.objs.size=none:=I.hok.fresh (zAA _);have hb:sysModules<s.heap.objs.size:=zB1 (by decide:sysModules<mainGlobals) (I.mod.glob.keeps I.bk).lt;refine kt_call_dict hm D (by rw[hvl];exact hz) λh' D' sb=>#[.ref s.heap.objs.size,upd H s.heap.objs.size (.dK (dS d)),?_,rfl,q _ fr]
 refine I.laid (t':=s.toks) (λb o e=>(sb.2 b (zAI (zAF e))).trans %[e|120]) (zAA _) #[by rw[D4];exact hz,?_,vs,rv,D'];rw[beq_eq_false_iff_ne];exactλz=>by rw[z]at hb;exact zBN _ hb
def Zl:List Str->List V->List (Value×Value)->Prop
 |[],[],[]=>True
 |k::ks,x::xs,p::ps=>(∃t,p.1=.str k t)/\RelV x p.2/\Zl ks xs ps
 |_,_,_=>False
def PD(X:Cx)(ks:List Str)(i6:List (Option Expr))(es:%[|22])(t:TA):Prop:=
 ∀(pos:Pos)pins s(σ:St)H(Q:List V->Hp->Prop),%[|4]->t σ H Q->%[|20] (evalPairs (pairTrees i6 es X.env pos)) (λvs s1=>Cd λxs H1=>BV (%[|16] H1 s1) (Zl ks xs vs) (Q xs H1)) X.xe s
theorem Uw:PD X [] [] [] Nr:=λpos pins s σ H Q I h=>pairTrees_nil_walk #[[],H,I,True.intro,h]
theorem CQ(ha:PE X e te)(hr:PD X ks i6 es t):PD X (k::ks) (some (.Constant (.str k) j p)::i6) (e::es) (MG te t):=by
 intro pos pins s σ H Q I h;refine pairTrees_cons_walk (AU (Ae (X:=X) pins s σ H (λx H1=>x=.str k/\H1=H) I #[rfl,rfl]) λkv s1 ⟨x1,H1,I1,r1,e1,e2⟩=>?_);subst e1 e2;obtain⟨tk,rfl⟩:=r1;refine AU (ha pins s1 σ H1 _ I1 h) λvv s2 ⟨x2,H2,I2,r2,q2⟩=>?_
 exact AU (hr pos pins s2 σ H2 _ I2 q2) λvs s3 ⟨xs,H3,I3,r3,q3⟩=>#[x2::xs,H3,I3,#[#[tk,rfl],r2,r3],q3]
def Z9(ks:List Str)(t:TA):TE:=λσ H Q=>∀p,H p=none->t σ (upd H p (.dK [])) λxs H1=>H1 p=some (.dK [])/\Q (.ref p) (upd H1 p (.dK (dS (ks.zip xs))))
theorem Oe:∀{ks:List Str}{xs:List V}{vs:List (Value×Value)},Zl ks xs vs->Carries (CG X.prog X.w) vs ((ks.zip (vs.map (·.2))).map λp=>((Sum.inr p.1:DO),p.2))/\KV (dS (ks.zip xs)) ((ks.zip (vs.map (·.2))).map λp=>((Sum.inr p.1:DO),p.2))/\(ks.zip xs).length=ks.length/\(((ks.zip (vs.map (·.2))).map λp=>((Sum.inr p.1:DO),p.2)).map (·.1))=ks.map Sum.inr
 |[],[],[],_=>#[True.intro,.nil,rfl,rfl]
 |k::ks,x::xs,(a,b)::vs,⟨⟨t,e⟩,r,h⟩=>by
  obtain⟨h1,h2,h3,h4⟩:=Oe h;have e:a=.str k t:=e;subst e;exact#[#[BM _ _ k t,rfl,h1],.cons #[rfl,r] h2,congrArg (· + 1) h3,congrArg (List.cons (Sum.inr k)) h4]
theorem Mi(h:PD X ks i6 es t)(nd:ks.Nodup)(h1:(i6.all λx=>x.isSome)=true)(h2:i6.length=es.length)(h3:i6≠[])(h4:i6.length<=15)(h5:ks.length<=15):PE X (.Dict i6 es pos) (Z9 ks t):=by
 intro pins s σ H Q I hq;have fr:H s.heap.objs.size=none:=I.hok.fresh (zAA _);have hb:sysModules<s.heap.objs.size:=zB1 (by decide:sysModules<mainGlobals) (I.mod.glob.keeps I.bk).lt;have I0:%[|16] (upd H s.heap.objs.size (.dK [])) {s with heap:=s.heap.push {cls:=.type "dict",data:=.dict #v[]}}:=I.laid (t':=s.toks) (λb o q=>Heap.get?_push_of_some _ q) (zAA _) (Tz s.heap hb);refine wpAny_Dict_walk (knd:=CG X.prog X.w) h1 h2 h3 h4 (AU (h pos pins _ σ _ _ I0 (hq _ fr)) λvs s1 ⟨xs,H1,I1,tr,hp,q⟩=>?_);obtain⟨c1,c2,c3,c4⟩:=Oe (X:=X) tr;obtain⟨_,hm,ws,r0,D0⟩:=Fs (d:=[]) I1 hp;have ew:ws=[]:=by cases r0;rfl
 subst ew;refine#[_,c1,D0,λh' D' sb=>#[.ref s.heap.objs.size,upd H1 s.heap.objs.size (.dK (dS (ks.zip xs))),?_,rfl,q]];rw[merged_nil_of_nodup _ (by rw[c4];exact List.Pairwise.map _ (λa b h z=>h (zCQ z)) nd)]at D';exact Ku I1 (d:=[]) hp hm sb D' c2 (by rw[c3];exact zAC h5 %[|2])
end
end L2
namespace Toy
open PySem L2 HT2 PyProof.Rows
open PySem.W (clsIn findIn keepIn mg_of mroIn nsIn typeIn)
set_option maxHeartbeats 64000000
def Bp(i:Nat):Stmt:=PySem.Challenge.pw_holdtalk_k56_two_houses.main.body.getD i (.Pass #[0,0,0,0])
variable {P:Program}{w:World}{K:PySem.W.Frag}{mg:Str->%[|14]}{cK cH cS cT cB cN cO cG cW cL dg dr dn:Addr}
section
variable {CX:IK}{R:Addr->Prop}{n q:Str}{st:Stmt}{N ps:List Str}{k:Nat}{sp:Sp}
inductive Fd(_:Program)(_:World)(K:PySem.W.Frag)(_:Str->%[|14])(n q:Str)(st:Stmt)(R:Addr->Prop):Prop where
 |mk (f d) (_:Fun K n q st f d) (_:R f)
inductive Fx(P:Program)(w:World)(K:PySem.W.Frag)(mg:Str->%[|14])(R:Addr->Prop)(CX:IK)(k:Nat)(sp:Sp):Prop where
 |mk (f d ps) (_:∀bz,EK P w K mg bz CX k f d ps sp) (_:Binds K d ps []) (_:R f)
def gF(K:PySem.W.Frag)(mg:Str->%[|14])(n:Str)(f:Addr):Prop:=mg n=some (.ref f)/\keepIn K (.ref f)=true
def gI(K:PySem.W.Frag)(mg:Str->%[|14])(C:Addr)(n:Str)(f:Addr):Prop:=Mk K C f/\mg n=some (.ref C)
abbrev FT(P:Program)(w:World)(K:PySem.W.Frag)(mg:Str->%[|14])(n:Str)(st:Stmt):Prop:=Fd P w K mg n n st (gF K mg n)
abbrev FM(P:Program)(w:World)(K:PySem.W.Frag)(mg:Str->%[|14])(C:Addr)(n q:Str)(st:Stmt):Prop:=Fd P w K mg n q st (Uh K C n)
abbrev FI(P:Program)(w:World)(K:PySem.W.Frag)(mg:Str->%[|14])(C:Addr)(n q:Str)(st:Stmt):Prop:=Fd P w K mg "__init__" q st (gI K mg C n)
abbrev Fc(P:Program)(w:World)(K:PySem.W.Frag)(mg:Str->%[|14])(n:Str)(CX:IK)(k:Nat)(sp:Sp):Prop:=Fx P w K mg (gF K mg n) CX k sp
abbrev Fm(P:Program)(w:World)(K:PySem.W.Frag)(mg:Str->%[|14])(C:Addr)(n:Str)(CX:IK)(k:Nat)(sp:Sp):Prop:=Fx P w K mg (Uh K C n) CX k sp
abbrev Fi(P:Program)(w:World)(K:PySem.W.Frag)(mg:Str->%[|14])(C:Addr)(n:Str)(CX:IK)(k:Nat)(sp:Sp):Prop:=Fx P w K mg (gI K mg C n) CX k sp
def Bd(n q:Str)(st:Stmt)(ps:List Str):Prop:=∀(a:Nat->Value)kV fA pm an dm ct,
 bindArgs (PySem.W.fnOf n q (DA st) (CB st) (A9 st) .none kV fA pm an dm ct) #[(List.range ps.length).map a,[]]=pure (ps.zip ((List.range ps.length).map a))
theorem az(us:%[|6]):us=(List.range us.length).map λi=>us.getD i .none:=
 zC7 %[|1] λi h _=>by simp[h]
theorem Bd.of(h:Bd n q st ps)(F:Fun K n q st f fd):Binds K fd ps []:=F.binds λkV fA pm an dm ct us hl=>by
 rw[az us,hl];exact h _ kV fA pm an dm ct
theorem Fd.okX(F:Fd P w K mg n q st R)(S:Et N ps (A9 st))(h:∀(bz:Heap) (f:Addr) (dm:Value) (A:Around) (outer:List Env) (s:Shared) (H:Hp) (vs:List V) (Q:VK) (E:XK),A0M k (A.deeper (envOfC q (A9 st) s.heap.objs.size f dm))->sp vs H Q E->
   ∃t,PSs (Io CX P w K mg bz N q (A9 st) f dm A outer s H E) (CB st) t/\t {nx:=λ_ H'=>Q .non H',rt:=Q} (EQ N vs) H)(len:∀vs H Q E,sp vs H Q E->vs.length=ps.length:=by rintro _ _ _ _ ⟨⟩;subst_vars;rfl)(hb:Bd n q st ps:=by intro _ _ _ _ _ _ _;rfl):Fx P w K mg R CX (k+1) sp:=by
 obtain⟨f,fd,F,r⟩:=F;refine#[f,fd,ps,λbz=>?_,hb.of F,r];obtain⟨oc,od,kV,fA,pm,an,dm,ct,jA,rfl,lk,gq⟩:=F.ex;exact XQ lk gq S len λA outer s H vs Q E hr fB=>h bz f dm A outer s H vs Q E hr fB
theorem Fd.ok(F:Fd P w K mg n q st R)(S:Et N ps (A9 st))(h:∀(bz:Heap) (f:Addr) (dm:Value) (A:Around) (outer:List Env) (s:Shared) (H:Hp) (vs:List V) (Q:VK) (E:XK),A0M k (A.deeper (envOfC q (A9 st) s.heap.objs.size f dm))->sp vs H Q E->
   ∃t,PSs (Io BC P w K mg bz N q (A9 st) f dm A outer s H E).nox (CB st) t/\t {nx:=λ_ H'=>Q .non H',rt:=Q} (EQ N vs) H)(len:∀vs H Q E,sp vs H Q E->vs.length=ps.length:=by rintro _ _ _ _ ⟨⟩;subst_vars;rfl)(hb:Bd n q st ps:=by intro _ _ _ _ _ _ _;rfl):Fx P w K mg R BC (k+1) sp:=by
 refine F.okX S (λbz f dm A outer s H vs Q E hr fB=>?_) len hb;obtain⟨t,h,q⟩:=h bz f dm A outer s H vs Q E hr fB;exact#[t,h.nox,q]
theorem Fd.no(ps:List Str)(F:Fd P w K mg n q st R)(no:∀vs H Q E,¬sp vs H Q E)(hb:Bd n q st ps:=by intro _ _ _ _ _ _ _;rfl):Fx P w K mg R CX k sp:=by
 obtain⟨f,fd,F,r⟩:=F;exact#[f,fd,ps,λbz=>#[λvs H Q E h=>absurd h (no vs H Q E),λA outer s H args us vs Q E _ _ _ _ h=>absurd h (no vs H Q E)],hb.of F,r]
end
section
variable {X:Cx}{CX:IK}{x m:Str}{p dF pos:Pos}{j k:Nat}{sp:Sp}{E:XK}{e o:Expr}{es:%[|22]}{t:TA}{ta:TE}{C:Addr}
theorem Ax(G:Fc X.prog X.w X.K X.mg x CX j sp)(hr:A0M k X.A)(hx:Cy CX X E)(ha:PA X (e::es) t)(hg:Gl X x:=by rfl)(le:j<=k:=by first | exact zAA _ | decide)(fP:%[|48]=false:=by decide)(he:starEach (e::es) X.env=%[|52]::starEach es X.env:=by rfl)(dE:%[|71].any (·.1)=false:=by rfl):
  PE X %[|82] (Ph sp [] E t):=by
 obtain⟨_,_,_,g,b,m,k⟩:=G;exact VM (g X.base) (hr.mono le) hg m k b .nil hx ha fP he dE
theorem ZE(G:Fc X.prog X.w X.K X.mg x CX j sp)(hr:A0M k X.A)(hx:Fl CX X E σ)(ha:PA X (e::es) t)(hg:Gl X x:=by rfl)(le:j<=k:=by first | exact zAA _ | decide)(fP:%[|48]=false:=by decide)(he:starEach (e::es) X.env=%[|52]::starEach es X.env:=by rfl)(dE:%[|71].any (·.1)=false:=by rfl):
  YG X σ %[|82] (Ph sp [] E t):=by
 obtain⟨_,_,_,g,b,m,k⟩:=G;exact QH (g X.base) (hr.mono le) hg m k b .nil hx ha fP he dE
theorem Yc(G:Fi X.prog X.w X.K X.mg C x CX j sp)(hr:A0M k X.A)(hx:Cy CX X E)(ha:PA X (e::es) t)(hg:Gl X x:=by rfl)(le:j+1<=k:=by decide)(fP:%[|48]=false:=by decide)(he:starEach (e::es) X.env=%[|52]::starEach es X.env:=by rfl)(dE:%[|71].any (·.1)=false:=by rfl):
  PE X %[|82] (W9 C sp [] E t):=by
 obtain⟨_,_,_,g,b,m,k⟩:=G;exact WD m (g X.base) (hr.mono le) hg k b .nil hx ha fP he dE
theorem By(ho:PE X o ta)(c:Cls X.K C)(G:Fm X.prog X.w X.K X.mg C m CX j sp)(hr:A0M k X.A)(hx:Cy CX X E)(ha:PA X (e::es) t)(le:j<=k:=by decide)(eG:starEach (e::es) X.env=%[|52]::starEach es X.env:=by rfl)(dE:%[|71].any (·.1)=false:=by rfl)(ht:eval (.Call (.Attribute o m dF) (e::es) [] pos) X.env=(do
   let ov <-eval o X.env
   standAt dF.atName
   let (f,first) <-holding [ov] (getMethod ov m pl)
   callWith pos f first (backTo pos (starEach (e::es) X.env)) (backToKw pos (keywordEach [] X.env))):=by rfl):
  PE X (.Call (.Attribute o m dF) (e::es) [] pos) (Pk C m sp [] E ta t):=by
 obtain⟨_,_,_,g,b,m⟩:=G;exact V9 ho c m (g X.base) (hr.mono le) b .nil hx ha eG dE ht
theorem B0(ho:PE X o ta)(c:Cls X.K C)(G:Fm X.prog X.w X.K X.mg C m CX j sp)(hr:A0M k X.A)(hx:Cy CX X E)(le:j<=k:=by decide)(ht:eval (.Call (.Attribute o m dF) [] [] pos) X.env=(do
   let ov <-eval o X.env
   standAt dF.atName
   let (f,first) <-holding [ov] (getMethod ov m pl)
   callWith pos f first (backTo pos (starEach [] X.env)) (backToKw pos (keywordEach [] X.env))):=by rfl):
  PE X (.Call (.Attribute o m dF) [] [] pos) (Pk C m sp [] E ta Nr):=by
 obtain⟨_,_,_,g,b,m⟩:=G;exact RP ho c m (g X.base) (hr.mono le) b .nil hx ht
end
def cJ(N:List Str)(n:Nat)(sc:Scope):Bool:=decide (sc.kind=.function/\sc.isCoroutine=false/\sc.isGenerator=false/\N.Nodup/\(∀x∈N.take n,sc.names.lookup x=some .local\/sc.names.lookup x=some .cell)/\∀y∈sc.names,y.2≠.free)
theorem Au(st:Stmt)(N:List Str)(n:Nat)(h:cJ N n (A9 st)=true:=by decide +kernel):Et N (N.take n) (A9 st):=by
 obtain⟨a,b,c,d,e,f⟩:=of_decide_eq_true h;exact#[a,b,c,d,by rw[zAW,<-List.take_take,zAP],e,f]
section
variable {X:Cx}{x:Str}{pos eF dF dC p:Pos}{e a b o:Expr}{es:%[|22]}{te ta tb:TE}{t:TA}{r:R2}{op:CmpOp}{id:Str}
theorem AC(i:Nat)(hN:X.N.Nodup)(he:PE X e te)(hi:X.N[i]? = some x:=by rfl)(hx:UD X.env.scope x:=by first | exact Or.inl rfl | exact Or.inr rfl)(hs:swapsWith e (some (.Name x eF)) pos.line X.env=pure false:=by rfl)(hf:X.fn x=true\/X.env.scope.names.lookup x=some .local:=by first | exact .inl rfl | exact .inr rfl | assumption):
  PS X (.Assign [.Name x eF] e pos) (Km te (Cr i)):=YV hN hi hx he hs hf
theorem Bo(i:Nat)(hN:X.N.Nodup:=by decide +kernel)(hi:X.N[i]? = some x:=by rfl)(hx:UD X.env.scope x:=by first|exact Or.inl rfl|exact Or.inr rfl)(hf:X.fn x=true\/X.env.scope.names.lookup x=some .local:=by first|exact .inl rfl|exact .inr rfl|assumption):PG X (.Name x pos) (Cr i):=Ke hN hi hx hf
theorem Am(hr:XD X r)(ha:PE X a ta)(hb:PE X b tb)(hs:Pt b:=by exactλ_ _=>rfl):PE X (.Subscript a b pos) (Zv r ta tb):=ZM hr ha hb hs
theorem AM(ho:Dy X (compareOp op) r)(ha:PE X a ta)(hb:PE X b tb)(hm:behindInMarks op b=false:=by exact Cl _):PT X (.Compare a [op] [b] pos) (UX (Zv r ta tb)):=Cp ho ha hb hm
theorem AI(ha:PE X a ta)(hs:starEach [a] X.env=(false,eval a X.env)::starEach [] X.env:=by rfl):PA X [a] (MG ta Nr):=Ag ha Bi hs
theorem AN(ha:PE X a ta)(hb:PE X b tb)(h1:starEach [b] X.env=(false,eval b X.env)::starEach [] X.env:=by rfl)(h2:starEach [a,b] X.env=(false,eval a X.env)::starEach [b] X.env:=by rfl):PA X [a,b] (MG ta (MG tb Nr)):=Ag ha (Ag hb Bi h1) h2
theorem AX(he:PE X e te):PSs X [.Return (some e) pos] (aN te):=Ak (UR he)
theorem A7(ho:PE X o to)(ha:PA X (e::es) t)(h1:attributeBase o "append" X.env (eval o X.env)=eval o X.env:=by rfl)(h2:((backTo dC (starEach (e::es) X.env)).all (λx=>!x.1) && (backToKw dC (keywordEach [] X.env)).all (λx=>x.1.isSome) && decide %[|107])=true:=by rfl)(h3:(dF.endLine == dC.line)=true:=by rfl)(h4:starEach (e::es) X.env=%[|52]::starEach es X.env:=by rfl)(h5:(backTo dC (starEach es X.env)).any (·.1)=false:=by rfl):
  PE X (.Call (.Attribute o "append" dF) (e::es) [] dC) (cq X.K "list" OV to t):=Eh zBL PySem.F.slot_list_append PySem.F.type_list_append IW ho ha h1 h2 h3 h4 h5
theorem Cn(ho:PE X o to)(h1:attributeBase o "pop" X.env (eval o X.env)=eval o X.env:=by rfl)(h3:(dF.endLine == dC.line)=true:=by rfl):
  PE X (.Call (.Attribute o "pop" dF) [] [] dC) (ZF X.K "list" ZY to):=Ui zBL PySem.F.slot_list_pop PySem.F.type_list_pop XY ho h1 h3
end
structure Bl(mg:Str->%[|14]):Prop where
 abs:mg "abs"=none
 len:mg "len"=none
 range:mg "range"=none
inductive Xy(K:PySem.W.Frag)(vs:List V)(H:Hp)(Q:VK)(E:XK):Prop|mk(a:Addr)(ns:List Int)(k:Int)(_:vs=[.ref a,.int k])(_:SqL K H a %[|28])(_:ns.length<=63)(_:0<=k)(_:k<=1000)(_:∀(n:Int)(H':Hp),0<=n->A0B H H'->Q (.int n) H')
inductive UI(vs:List V)(H:Hp)(Q:VK)(E:XK):Prop|mk(n:Int)(most many:Nat)(_:vs=[.int n,.int most,.int many])(_:0<=n)(_:1<=most)(_:most<=12)(_:1<=many)(_:many<=5)(_:∀(v:V)(t:Tr)(H':Hp),A0B H H'->t.At H' v->t.ok many->t.size+1<=2*most->Q v H')
abbrev aw:Stmt:=Bp 59
abbrev ZT:Stmt:=Bp 60
abbrev XA:Stmt:=Bp 61
abbrev LN:Stmt:=Bp 64
abbrev JQ:Stmt:=Bp 62
abbrev Xx:Stmt:=Bp 63
abbrev V0:Stmt:=Bp 67
abbrev K4:Stmt:=Bp 81
abbrev UB:Stmt:=Bp 22
abbrev UN:Stmt:=Bp 26
abbrev Os:Stmt:=Bp 27
abbrev So:Stmt:=Bp 28
abbrev O2:Stmt:=Bp 29
abbrev JC:Stmt:=Bp 30
abbrev XL:Stmt:=Bp 31
abbrev Xv:Stmt:=Bp 14
abbrev SR:Stmt:=Bp 15
abbrev R0:Stmt:=Bp 18
abbrev aI:Stmt:=Bp 16
abbrev SZ:Stmt:=Bp 17
abbrev Sr:Stmt:=Bp 42
abbrev OQ:Stmt:=Bp 37
abbrev OM:Stmt:=Bp 38
abbrev Of:Stmt:=Bp 44
abbrev Ly:Stmt:=Bp 45
abbrev Pj:Stmt:=Bp 46
abbrev PH:Stmt:=Bp 40
abbrev Pd:Stmt:=Bp 41
abbrev Ov:Stmt:=Bp 36
abbrev KM:Stmt:=Bp 35
abbrev K1:Stmt:=Bp 23
abbrev Lh:Stmt:=Bp 32
abbrev Sn:Stmt:=AL (Bp 48) 2
abbrev UA:Stmt:=AL (Bp 48) 3
abbrev PY:Stmt:=AL (Bp 48) 4
abbrev Jn:Stmt:=AL (Bp 48) 6
abbrev KJ:Stmt:=AL (Bp 48) 7
abbrev U4:Stmt:=AL (Bp 48) 8
abbrev TM:Stmt:=AL (Bp 48) 0
abbrev Xe:Stmt:=AL (Bp 48) 9
abbrev L5:Stmt:=Bp 49
abbrev Xg:Stmt:=AL (Bp 48) 10
abbrev Sj:Stmt:=AL (Bp 48) 11
abbrev XU:Stmt:=AL (Bp 48) 13
abbrev Us:Stmt:=AL (Bp 48) 12
abbrev Ut:Stmt:=Bp 24
abbrev Pn:Stmt:=Bp 33
abbrev O6:Stmt:=Bp 52
abbrev UY:Stmt:=AL (Bp 57) 0
abbrev Pg:Stmt:=AL (Bp 57) 24
abbrev Tc:Stmt:=AL (Bp 57) 1
abbrev ID:Stmt:=AL (Bp 57) 27
abbrev LK:Stmt:=AL (Bp 57) 26
abbrev KY:Stmt:=AL (Bp 57) 25
abbrev Pz:Stmt:=AL (Bp 57) 9
abbrev U1:Stmt:=AL (Bp 57) 8
abbrev Ps:Stmt:=AL (Bp 57) 6
abbrev Tb:Stmt:=AL (Bp 57) 7
abbrev RG:Stmt:=AL (Bp 57) 2
abbrev XM:Stmt:=AL (Bp 57) 22
abbrev Xc:Stmt:=AL (Bp 57) 10
abbrev W5:Stmt:=AL (Bp 57) 11
abbrev Sl:Stmt:=AL (Bp 57) 12
abbrev XG:Stmt:=AL (Bp 57) 13
abbrev IL:Stmt:=AL (Bp 57) 14
abbrev SD:Stmt:=AL (Bp 57) 15
abbrev LG:Stmt:=AL (Bp 57) 16
abbrev SW:Stmt:=AL (Bp 57) 17
abbrev RJ:Stmt:=Bp 75
abbrev O5:Stmt:=Bp 80
abbrev XO:Stmt:=Bp 82
abbrev P3:Stmt:=Bp 83
abbrev K6:Stmt:=Bp 66
abbrev G7:Stmt:=Bp 65
abbrev KT:Stmt:=Bp 76
abbrev O4:Stmt:=Bp 68
abbrev Lf:Stmt:=Bp 79
abbrev OE:Stmt:=AL (Bp 57) 4
abbrev KQ:Stmt:=AL (Bp 57) 28
abbrev Jb:Stmt:=Bp 53
abbrev II:Stmt:=Bp 77
abbrev Pm:Stmt:=Bp 78
abbrev Hs:Stmt:=Bp 84
abbrev Sz:Stmt:=Bp 69
abbrev Oi:Stmt:=Bp 70
abbrev IH:Stmt:=Bp 87
abbrev OR:Stmt:=Bp 71
abbrev SI:Stmt:=Bp 73
abbrev Td:Stmt:=Bp 72
abbrev P4:Stmt:=Bp 74
abbrev IE:Stmt:=Bp 88
abbrev O9:Stmt:=AL (Bp 57) 3
abbrev Ix:Stmt:=AL (Bp 57) 5
abbrev Lj:Stmt:=Bp 85
abbrev N7:Stmt:=Bp 86
abbrev Y5:Stmt:=Bp 89
structure cQ(mg:Str->%[|14]):Prop where
 isi:mg "isinstance"=none
 int:mg "int"=none
 bool:mg "bool"=none
 str:mg "str"=none
 tup:mg "tuple"=none
 lst:mg "list"=none
 set:mg "set"=none
 sorted:mg "sorted"=none
 rng:mg "range"=none
 any:mg "any"=none
 all:mg "all"=none
structure DQ(K:PySem.W.Frag)(mg:Str->%[|14])(nm:Str)(C cT:Addr):Prop where
 at_:XAt K C cT
 cls:YM K C cT none
 m:mg nm=some (.ref C)
 ty:typeIn K (.ref C)=some (.type "type")
 ic:(clsIn K C).isSome=true
 bs:mroIn K C (.type "BaseException")=some true
 slf:mroIn K C (.ref C)=some true
 up:mroIn K C (.ref cT)=some true
 kv:PySem.W.kitOne K (.ref C) (.type "ValueError")=some true
structure aR(K:PySem.W.Frag)(mg:Str->%[|14])(cT:Addr):Prop where
 m:mg "TalkError"=some (.ref cT)
 ty:typeIn K (.ref cT)=some (.type "type")
 ic:(clsIn K cT).isSome=true
 bs:mroIn K cT (.type "BaseException")=some true
 mV:mg "ValueError"=none
 isi:mg "isinstance"=none
structure cw(K:PySem.W.Frag)(C:Addr):Prop where
 cl:Cls K C
 many:A0R K C "many"
 kind:A0R K C "kind"
 sentence:A0R K C "sentence"
 rule:A0R K C "rule"
 space:A0R K C "space"
 parts:A0R K C "parts"
 given:A0R K C "given"
 left:A0R K C "left"
 ended:A0R K C "ended"
structure ci(K:PySem.W.Frag)(C:Addr):Prop where
 cl:Cls K C
 space:A0R K C "space"
 many:A0R K C "many"
 marks:A0R K C "marks"
 talks:A0R K C "talks"
 lines:A0R K C "lines"
def aG(k:Str):Option V:=if k="and" then some (.str "&")else if k="or" then some (.str "|")else if k="if" then some (.str ">")else if k="same" then some (.str "=")else none
structure Xf(P:Program)(w:World)(K:PySem.W.Frag)(mg:Str->%[|14]):Prop where
 isi:mg "isinstance"=none
 str:mg "str"=none
 let':∃t,mg "LETTERS"=some (.str "abcde" t)
 jo:∃d,mg "JOINTS"=some (.ref d)/\YZ P w K d aG
theorem Z4{K:PySem.W.Frag}(l:K.lookup dd=some #[.type "dict",none,.dict #v[#[hashStr w a,.str a t1,.str x t2],#[hashStr w b,.str b t3,.str y t4],#[hashStr w c,.str c t5,.str z t6],#[hashStr w d,.str d t7,.str u t8]] ep,#v[]])(nd:[a,b,c,d].Nodup)(nm:(dd == sysModules)=false)(hf:∀k,f k=if k=a then some (.str x)else if k=b then some (.str y)else if k=c then some (.str z)else if k=d then some (.str u)else none):YZ P w K dd f:=by
 refine#[nm,_,[(a,.str x t2),(b,.str y t4),(c,.str z t6),(d,.str u t8)],l,#[_,_,#[rfl,rfl,rfl],rfl,λe he=>?_,?_,nd],λk=>?_]
 ·have iy:e=#[hashStr w a,.str a t1,.str x t2]\/e=#[hashStr w b,.str b t3,.str y t4]\/e=#[hashStr w c,.str c t5,.str z t6]\/e=#[hashStr w d,.str d t7,.str u t8]:=by simpa using he
  rcases iy with e1|e1|e1|e1
  ·subst e1;exact#[a,strKind_is _ _ _ _,rfl]
  ·subst e1;exact#[b,strKind_is _ _ _ _,rfl]
  ·subst e1;exact#[c,strKind_is _ _ _ _,rfl]
  ·subst e1;exact#[d,strKind_is _ _ _ _,rfl]
 ·exact .cons (strKind_is _ _ _ _) rfl (.cons (strKind_is _ _ _ _) rfl (.cons (strKind_is _ _ _ _) rfl (.cons (strKind_is _ _ _ _) rfl .nil)))
 ·rw[hf];unfold valueAt;by_cases h1:k=a
  ·subst h1;rw[if_pos rfl,List.find?_cons_of_pos %[|1]];exact#[_,rfl]
  rw[if_neg h1,List.find?_cons_of_neg (by simpa using λq=>h1 q.symm)];by_cases h2:k=b
  ·subst h2;rw[if_pos rfl,List.find?_cons_of_pos %[|1]];exact#[_,rfl]
  rw[if_neg h2,List.find?_cons_of_neg (by simpa using λq=>h2 q.symm)];by_cases h3:k=c
  ·subst h3;rw[if_pos rfl,List.find?_cons_of_pos %[|1]];exact#[_,rfl]
  rw[if_neg h3,List.find?_cons_of_neg (by simpa using λq=>h3 q.symm)];by_cases h4:k=d
  ·subst h4;rw[if_pos rfl,List.find?_cons_of_pos %[|1]];exact#[_,rfl]
  rw[if_neg h4,List.find?_cons_of_neg (by simpa using λq=>h4 q.symm)];exact True.intro
def BR:%[|17]->Str
 |some true=>"yes"
 |some false=>"no"
 |none=>"unknown"
theorem JF(k:%[|17]):(BR k).length<=20:=by
 cases k with
 |none=>decide
 |some b=>cases b<;>decide
def Kt(a b c d e f g:Addr):Nat->Addr
 |0=>a
 |1=>b
 |2=>c
 |3=>d
 |4=>e
 |5=>f
 |_=>g
theorem cM{K:PySem.W.Frag}(X0:DQ K mg n0 c0 cT)(X1:DQ K mg n1 c1 cT)(X2:DQ K mg n2 c2 cT)(X3:DQ K mg n3 c3 cT)(X4:DQ K mg n4 c4 cT)(X5:DQ K mg n5 c5 cT)(X6:DQ K mg n6 c6 cT):∀y,y<7->mroIn K (Kt c0 c1 c2 c3 c4 c5 c6 y) (.ref cT)=some true:=λy hy=>
 match y,hy with
 |0,_=>X0.up
 |1,_=>X1.up
 |2,_=>X2.up
 |3,_=>X3.up
 |4,_=>X4.up
 |5,_=>X5.up
 |6,_=>X6.up
def KF(K:PySem.W.Frag)(mg:Str->%[|14])(n:Str)(c:Addr):Prop:=mg n=some (.ref c)/\PySem.W.makesIn K c=true/\keepIn K (.ref c)=true
theorem fi{K:PySem.W.Frag}{st:Stmt}(t:KF K mg cn C)(h:%[|23] C "__init__" q st):FI P w K mg C cn q st:=by
 obtain⟨f,d,F,m⟩:=h;exact#[f,d,F,#[t.2.1,m.at_,m.fn,t.2.2],t.1]
theorem ex_SHT(X:K.In h)(G:h.Ns mainGlobals mg)(zisinstance:mg "isinstance"=none)(zstr:mg "str"=none)(aL:nsIn K mainGlobals "LETTERS"=some (some (.str "abcde" tL)))(aJ:nsIn K mainGlobals "JOINTS"=some (some (.ref dJ)))(lJ:K.lookup dJ=some #[.type "dict",none,.dict #v[#[hashStr w "and",.str "and" t1,.str "&" t2],#[hashStr w "or",.str "or" t3,.str "|" t4],#[hashStr w "if",.str "if" t5,.str ">" t6],#[hashStr w "same",.str "same" t7,.str "=" t8]] ep,#v[]])(nJ:(dJ == sysModules)=false):Xf P w K mg:=#[zisinstance,zstr,#[_,mg_of X G aL],dJ,mg_of X G aJ,Z4 lJ %[|2] nJ (λ_=>rfl)]
theorem ex_hMW(X:K.In h)(G:h.Ns mainGlobals mg)(lMW:K.lookup dM=some #[.type "dict",none,.dict #v[#[1,.bool true,.str "yes" tm1],#[0,.bool false,.str "no" tm2],#[0xFCA86420,.none,.str "unknown" tm3]] epM,#v[]])(nMW:(dM == sysModules)=false):Wn P w K dM BR:=aD lMW nMW rfl rfl rfl
variable {tL dt du:Tok}{dM:Addr}
structure Ev(P:Program)(w:World)(K:PySem.W.Frag)(mg:Str->%[|14])(tL dt du:Tok)(dM:Addr)(cK cH cT cL cW dg dn cN cO cG cS cB dr:Addr):Prop where
 h1:%[|7] "_law_num" aw
 h2:%[|7] "_law_few" ZT
 h3:%[|7] "_law_worlds" LN
 h4:%[|7] "_law_sentence" XA
 h5:%[|7] "_law_true" JQ
 h6:%[|7] "_law_ins" Xx
 h7:%[|7] "_law_standing" G7
 h8:%[|7] "_law_shown" V0
 h9:%[|7] "_law_room_of" K6
 h10:%[|7] "_law_state" O4
 h11:%[|7] "_law_last" SI
 h12:%[|7] "_law_name" Sz
 h13:%[|7] "_law_names" Oi
 h14:%[|7] "_law_asked" OR
 h15:%[|7] "_law_deed" Td
 h16:%[|7] "_law_deeds" P4
 h17:%[|7] "_law_seen_by" KT
 h18:%[|7] "_law_learnt" II
 h19:%[|7] "_law_find" RJ
 h20:%[|7] "_law_begun" Pm
 h21:%[|7] "_law_forked" Lf
 h22:%[|7] "_law_plain" O5
 h23:%[|7] "_law_stands" K4
 h24:%[|7] "_law_due" XO
 h25:%[|7] "_law_due_in" P3
 h26:%[|7] "_law_modelled" Hs
 h28:%[|7] "letter_holds" UN
 h29:%[|7] "agrees" PH
 h30:%[|7] "seen_by" Pd
 h31:%[|7] "mark_word" Jb
 h32:%[|7] "line_of" O6
 h36:%[|7] "parts_of" UB
 h37:%[|7] "letters" K1
 h38:%[|7] "refuse_strange" Lh
 h39:%[|7] "steps_of" So
 h40:%[|7] "joined" Os
 h41:%[|7] "true_by" O2
 h42:%[|7] "worlds_of" JC
 h43:%[|7] "in_first_only" SR
 h44:%[|7] "sides_of" KM
 h45:%[|7] "in_any" aI
 h46:%[|7] "base_of" Ov
 h48:%[|7] "shown" Ut
 h55:%[|7] "refuse_over" L5
 h56:%[|7] "all_within" SZ
 h57:%[|7] "in_both" Xv
 h58:%[|7] "some_within" R0
 h59:%[|7] "plain" Sr
 h60:%[|7] "left_by" Of
 h61:%[|7] "missed_side" OQ
 h62:%[|7] "barring_side" Ly
 h63:%[|7] "answer" Pj
 h76:%[|7] "_law_called" IH
 h77:%[|7] "_law_agrees" IE
 h86:%[|7] "stands" OM
 h91:%[|7] "_law_talk_looks" Lj
 h92:%[|7] "_law_looks" N7
 h93:%[|7] "all_worlds" XL
 h94:%[|7] "room_of" Pn
 h96:%[|7] "law" Y5
 kTalk:KF K mg "Talk" cK
 TX:cw K cK
 h47:%[|23] cK "__init__" "Talk.__init__" TM
 h52:%[|23] cK "fork" "Talk.fork" Us
 h54:%[|23] cK "over" "Talk.over" U4
 h64:%[|23] cK "held" "Talk.held" UA
 h65:%[|23] cK "base" "Talk.base" Sn
 h66:%[|23] cK "going" "Talk.going" PY
 h67:%[|23] cK "ask" "Talk.ask" Xe
 h68:%[|23] cK "say" "Talk.say" Xg
 h71:%[|23] cK "back" "Talk.back" Sj
 h73:%[|23] cK "end" "Talk.end" XU
 h83:%[|23] cK "entries" "Talk.entries" Jn
 h87:%[|23] cK "caught" "Talk.caught" KJ
 kHouse:KF K mg "House" cH
 HX:ci K cH
 h27:%[|23] cH "refuse_letter" "House.refuse_letter" KQ
 h33:%[|23] cH "write" "House.write" Pg
 h34:%[|23] cH "learn" "House.learn" OE
 h35:%[|23] cH "refuse_new_name" "House.refuse_new_name" ID
 h49:%[|23] cH "begin" "House.begin" Ps
 h50:%[|23] cH "refuse_no_talk" "House.refuse_no_talk" LK
 h51:%[|23] cH "talk_of" "House.talk_of" KY
 h53:%[|23] cH "fork" "House.fork" Tb
 h69:%[|23] cH "seen" "House.seen" RG
 h70:%[|23] cH "say" "House.say" Xc
 h72:%[|23] cH "back" "House.back" Sl
 h74:%[|23] cH "end" "House.end" XG
 h75:%[|23] cH "drop" "House.drop" U1
 h78:%[|23] cH "room" "House.room" Tc
 h79:%[|23] cH "plainly" "House.plainly" Ix
 h80:%[|23] cH "known" "House.known" O9
 h81:%[|23] cH "names" "House.names" Pz
 h82:%[|23] cH "log" "House.log" XM
 h84:%[|23] cH "entries" "House.entries" IL
 h85:%[|23] cH "held" "House.held" SD
 h88:%[|23] cH "caught" "House.caught" LG
 h89:%[|23] cH "over" "House.over" SW
 h90:%[|23] cH "ask" "House.ask" W5
 h95:%[|23] cH "__init__" "House.__init__" UY
 XT:aR K mg cT
 X_NoLetter:DQ K mg "NoLetter" cL cT
 X_NoWorld:DQ K mg "NoWorld" cW cT
 X_NoTalk:DQ K mg "NoTalk" dg cT
 X_NameTaken:DQ K mg "NameTaken" dn cT
 X_NoStanding:DQ K mg "NoStanding" cN cT
 X_TalkOver:DQ K mg "TalkOver" cO cT
 X_NothingSaid:DQ K mg "NothingSaid" cG cT
 X_StrangeLetter:DQ K mg "StrangeLetter" cS cT
 X_BadWord:DQ K mg "BadWord" cB cT
 X_BadName:DQ K mg "BadName" dr cT
 zabs:mg "abs"=none
 zlen:mg "len"=none
 zrange:mg "range"=none
 zisinstance:mg "isinstance"=none
 zint:mg "int"=none
 zbool:mg "bool"=none
 zstr:mg "str"=none
 ztuple:mg "tuple"=none
 zlist:mg "list"=none
 zset:mg "set"=none
 zsorted:mg "sorted"=none
 zany:mg "any"=none
 zall:mg "all"=none
 zValueError:mg "ValueError"=none
 zenumerate:mg "enumerate"=none
 zmin:mg "min"=none
 zdict:mg "dict"=none
 bMW:mg "MARK_WORDS"=some (.ref dM)
 bL:mg "LETTERS"=some (.str "abcde" tL)
 bNS:mg "NAME_SIGNS"=some (.str "abcdefghijklmnopqrstuvwxyz" dt)
 bLN:mg "LONGEST_NAME"=some (.int 8 du)
 SHT:Xf P w K mg
 hMW:Wn P w K dM BR
theorem Ev.B(de:%[|5]):Bl mg:=#[de.zabs,de.zlen,de.zrange]
theorem Ev.T(de:%[|5]):cQ mg:=#[de.zisinstance,de.zint,de.zbool,de.zstr,de.ztuple,de.zlist,de.zset,de.zsorted,de.zrange,de.zany,de.zall]
section
def scNum:=Au aw ["_law_script","_law_k","_law_cell","_law_one","_law_two"] 2
theorem Cz(de:%[|5]):%[|8] "_law_num" BC 1 (Xy K):=by
 refine de.h1.ok scNum ?_;rintro bz f dm A outer s H _ Q E hr ⟨a,ns,k,rfl,hS,h63,hk0,io,q⟩
 refine#[_,Aa (AC 2 scNum.nd Ad)
  (Aa (Aq (AM (Nz hr.units0) (pv 0) (Av Bi))
   (Ak (AC 2 scNum.nd (AQ Sy %[|10] de.B.abs boot_abs (AI (Am Ay (pv 0) (Ap A4 (pv 1) (%[|67] (AI (pv 0))))))))) Ah)
  (Aa (Aq (EW (AM L8 (pv 1) (%[|67] (AI (pv 0)))) (DC (AM Uq (pv 2) (Ap E4 Ad Ad)))).pt
   (AX (pv 2)) Ah)
  (Aa (AC 3 scNum.nd (Ap A4 (Ap C2 (Ap C2 (Ap HP (pv 2) Ad) (Ap HP Ad (pv 1))) Ad) Ad))
  (Aa (AC 4 scNum.nd (Ap A4 (Ap C2 (Ap C2 (Ap HP (pv 3) (pv 3)) (Ap HP Ad (pv 2))) Ad) Ad))
  (AX (Ap C2 (Ap HP (pv 3) Ad) (pv 4))))))),?_]
 refine#[GD,λp hp=>?_];have sm:A0B H (upd H p %[|9]):=Ab hp _;refine#[a,p,_,rfl,rfl,sm.seq hS,SqL.of A0A,?_];have hl:%[|28].length=ns.length:=List.length_map _
 have dI:∀c:Int,0<=c->∀b:Int,0<=(c*48271+40692*k+11)%2147483647*2147483629+b%2147483629:=λc hc b=>by
  have h1:=zA1 (c*48271+40692*k+11) (show (2147483647:Int)≠0 by decide);have h2:=zA1 b (show (2147483629:Int)≠0 by decide);omega
 have kB:∀b:Int,-(2^64)<b%2147483647/\b%2147483647<2^64:=λb=>by omega
 refine Cb (λc0=>?_) (λc0=>?_)
 ·have ne:ns≠[]:=by
   intro z;subst z;exact absurd c0 %[|2]
  have eJ:0<ns.length:=List.length_pos_iff.mpr ne
  have hi:(k%(ns.length:Int)).toNat<ns.length:=by
   have h1:=zA1 k (show (ns.length:Int)≠0 by omega);have h2:=zA3 k (show (0:Int)<ns.length by omega);omega
  have dN:DR %[|28] (k%((%[|28].length:Nat):Int))=some (.int ns[(k%(ns.length:Int)).toNat]):=by
   have e:k%((%[|28].length:Nat):Int)=(((k%(ns.length:Int)).toNat:Nat):Int):=by
    rw[hl];have h1:=zA1 k (show (ns.length:Int)≠0 by omega);omega
   rw[e];refine Ac ?_;rw[List.getElem?_map,List.getElem?_eq_getElem hi];rfl
  refine#[.inl (sm.seq hS),(by rw[hl];omega),sm.seq hS,dN,_,rfl,?_];generalize hc:(if ns[(k%(ns.length:Int)).toNat]<0 then -ns[(k%(ns.length:Int)).toNat]else ns[(k%(ns.length:Int)).toNat])=c
  have hc0:0<=c:=by
   rw[<-hc];split<;>omega
  refine#[.inl (sm.seq hS),?_];have tail:∀{G:Prop},(∀y:Int,0<=(c*48271+40692*k+11)%2147483647*2147483629+y%2147483629->Q (.int ((c*48271+40692*k+11)%2147483647*2147483629+y%2147483629)) (upd H p %[|9])):=λ{G} y hy=>q _ _ hy sm
  refine Cb (λc1=>?_) (λc1=>?_)
  ·refine#[%[|81],?_];refine Cb (λc2=>?_) (λc2=>?_)
   ·exact q c _ hc0 sm
   ·refine#[.inr #[by decide,by decide],.inl #[by decide,by decide],(by show (0:Int)<2147483647;decide),?_];exists 23;exact#[.inl (kB _),q _ _ (dI c hc0 _) sm]
  ·refine Aw ?_;refine#[.inr #[by decide,by decide],.inl #[by decide,by decide],(by show (0:Int)<2147483647;decide),?_];exists 23;exact#[.inl (kB _),q _ _ (dI c hc0 _) sm]
 ·have c:Int:=0;refine#[.inl (sm.seq hS),?_];refine Cb (λc1=>?_) (λc1=>?_)
  ·refine#[%[|81],?_];refine Cb (λc2=>?_) (λc2=>?_)
   ·exact q 0 _ (zDI _) sm
   ·refine#[.inr #[by decide,by decide],.inl #[by decide,by decide],(by show (0:Int)<2147483647;decide),?_];exists 23;exact#[.inl (kB _),q _ _ (dI 0 (zDI _) _) sm]
  ·refine Aw ?_;refine#[.inr #[by decide,by decide],.inl #[by decide,by decide],(by show (0:Int)<2147483647;decide),?_];exists 23;exact#[.inl (kB _),q _ _ (dI 0 (zDI _) _) sm]
def ao:=Au ZT ["_law_n"] 1
inductive Xo(vs:List V)(H:Hp)(Q:VK)(E:XK):Prop|mk(n:Int)(_:vs=[.int n])(_:0<=n)(_:∀(m:Nat)(H':Hp),1<=m->m<=5->A0B H H'->Q (.int m) H')
def fews:List Int:=[3,2,3,1,3,2,4,5]
theorem cI:8<=sizeLine:=by decide
theorem Yk(h:i<8):∃m:Nat,BV (1<=m) (m<=5) ((fews.map V.int)[i]? = some (.int m)):=by
 match i,h with
 |0,_=>exact#[3,by decide,by decide,rfl]
 |1,_=>exact#[2,by decide,by decide,rfl]
 |2,_=>exact#[3,by decide,by decide,rfl]
 |3,_=>exact#[1,by decide,by decide,rfl]
 |4,_=>exact#[3,by decide,by decide,rfl]
 |5,_=>exact#[2,by decide,by decide,rfl]
 |6,_=>exact#[4,by decide,by decide,rfl]
 |7,_=>exact#[5,by decide,by decide,rfl]
theorem Yn(de:%[|5]):%[|8] "_law_few" BC 1 Xo:=by
 refine de.h2.ok ao ?_;rintro bz f dm A outer s H _ Q E hr ⟨n,rfl,h0,q⟩;refine#[_,AX (Am Ay (Av (Ag Ad (Ag Ad (Ag Ad (Ag Ad (Ag Ad (Ag Ad (AN Ad Ad)))))))) (Ap A4 (pv 0) Ad)),?_];have h1:=zA1 n (show (8:Int)≠0 by decide);have h2:=zA3 n (show (0:Int)<8 by decide);obtain⟨m,m1,m5,hm⟩:=Yk (i:=(n%8).toNat) %[|0]
 have dN:DR (fews.map V.int) (n%8)=some (.int m):=by
  have e:n%8=(((n%8).toNat:Nat):Int):=by omega
  rw[e];exact Ac (j:=(n%8).toNat) hm
 refine#[cI,λl hl=>?_];refine#[(by show (0:Int)<8;decide),SqL.of A0A,dN,?_];exact q m _ m1 m5 (Ab hl _)
end
section
def A1G:=Au XA ["_law_n","_law_most","_law_many","_law_joints","_law_pile","_law_size","_law_turn","_law_digit","_law_right"] 3
structure A0V(H1 H2:Hp)(pl:Addr)(xs:List V)(ts:List Tr)(many:Nat):Prop where
 sm:A0B H1 H2
 at':H2 pl=some %[|12]
 pile:A0J H2 xs ts
 ok:∀t∈ts,t.ok many
theorem A0V.len(p:A0V H1 H2 pl xs ts many):xs.length=ts.length:=p.pile.len
theorem A0V.pop(np:H1 pl=none)(p:A0V H1 H2 pl xs ts many)(h:0<ts.length):
  Fb λy fQ t=>Il (xs[xs.length-1]? = some y) (ts=fQ++[t]) (t.ok many) (t.At (upd H2 pl (.lst xs.dropLast)) y) (A0V H1 (upd H2 pl (.lst xs.dropLast)) pl xs.dropLast fQ many):=by
 obtain⟨gR,y,fQ,t,rfl,rfl,q,a⟩:=p.pile.last h;refine#[y,fQ,t,CD _ _,rfl,p.ok t %[|1],a.keep (TS.lst p.at'),#[Ao p.sm np _,A0A,?_,λu hu=>p.ok u (by simp[hu])]];rw[zAY];exact q.keep (TS.lst p.at')
theorem A0V.new(p:A0V H1 H2 pl xs ts many)(he:H2 e=none):A0V H1 (upd H2 e o) pl xs ts many:=
 #[p.sm.trans (Ab he _),(Ab he _) _ _ p.at',p.pile.keep (TS.new he),p.ok]
theorem A0V.put(np:H1 pl=none)(p:A0V H1 H2 pl xs ts many)(hc:H2 c=none)(ht:t.ok many)(ha:t.At (upd (upd H2 c (.tup ys)) pl (.lst (xs++[.ref c]))) (.ref c)):A0V H1 (upd (upd H2 c (.tup ys)) pl (.lst (xs++[.ref c]))) pl (xs++[.ref c]) (ts++[t]) many:=by
 have k:TS H2 (upd (upd H2 c (.tup ys)) pl (.lst (xs++[.ref c]))):=(TS.new hc).trans (TS.lst (xs:=xs) (by rw[Af (Ai p.at' hc)];exact p.at'));refine#[Ao (p.sm.trans (Ab hc _)) np _,A0A,(p.pile.keep k).snoc ha,λu hu=>?_];rcases List.mem_append.mp hu with z|z
 ·exact p.ok u z
 ·rw[List.mem_singleton.mp z];exact ht
theorem JH(hp:H2 pl=some (.lst zs))(hc:H2 c=none):(upd (upd H2 c (.tup ys)) pl %[|12]) c=some (.tup ys):=by
 rw[Af (Ai hp hc).symm,A0A]
theorem Ee(hp:H2 pl=some (.lst zs))(hc:H2 c=none):TS H2 (upd (upd H2 c (.tup ys)) pl %[|12]):=
 (TS.new hc).trans (TS.lst (xs:=zs) (by rw[Af (Ai hp hc)];exact hp))
inductive Tf(H1:Hp)(jl:Addr)(pl:Addr)(most:Nat)(many:Nat)(size:Int)(i:Nat)(σ:L2.St)(H2:Hp):Prop|mk(m:Int)(tv dv rv:Option V)(xs:List V)(ts:List Tr)(_:σ=[some (.int m),some (.int most),some (.int many),some (.ref jl),some (.ref pl),some (.int size),tv,dv,rv])(_:0<=m)(_:A0V H1 H2 pl xs ts many)(_:sz ts<=i)(_:ts.length<=i)(_:(0<i->0<ts.length))
theorem FF{tv rv:Option V}(np:H1 pl=none)(p:A0V H1 H3 pl xs ts many)(hc:H3 c=none)(h1:1<=many)(hm:0<=m2)(z1:sz ts<=i)(z2:ts.length<=i):
  Tf H1 jl pl most many size (i+1) [some (.int m2),some (.int most),some (.int many),some (.ref jl),some (.ref pl),some (.int size),tv,some (.int d),rv] (upd (upd H3 c (.tup [.str "let",.int (d%(many:Int))])) pl (.lst (xs++[.ref c]))):=by
 have e1:=zA1 d (show (many:Int)≠0 by omega);have e2:=zA3 d (show (0:Int)<many by omega);have e3:d%(many:Int)=(((d%(many:Int)).toNat:Nat):Int):=by omega
 refine#[m2,_,_,_,_,ts++[.lt (d%(many:Int)).toNat],rfl,hm,p.put (t:=.lt (d%(many:Int)).toNat) np hc (by show (d%(many:Int)).toNat<many;omega) #[c,rfl,?_],?_,?_,?_]
 ·rw[JH p.at' hc,<-e3]
 ·rw[Cq];show sz ts+1<=i+1;omega
 ·rw[zA];show ts.length+1<=i+1;omega
 ·intro _;rw[zA];exact zBH _
theorem SH{tv dv rv:Option V}(np:H1 pl=none)(p:A0V H1 H3 pl xs ts many)(hc:H3 c=none)(hm:0<=m2)(ht:t.ok many)(ha:t.At H3 y)(z1:sz (ts++[t])<=i)(z2:(ts++[t]).length<=i):
  Tf H1 jl pl most many size (i+1) %[|105] (upd (upd H3 c (.tup [.str "not",y])) pl (.lst (xs++[.ref c]))):=by
 rw[Cq]at z1;rw[zA]at z2;have z2':ts.length+1<=i:=z2;refine#[m2,_,_,_,_,ts++[.nt t],rfl,hm,p.put (t:=.nt t) np hc ht #[c,y,rfl,JH p.at' hc,ha.keep (Ee p.at' hc)],?_,?_,?_]
 ·rw[Cq];show sz ts+(t.size+1)<=i+1;omega
 ·rw[zA];show ts.length+1<=i+1;omega
 ·intro _;rw[zA];exact zBH _
theorem Vj{most many i:Nat}{size m2 j:Int}{xs:List V}{ts:List Tr}{tv dv rv:Option V}(np:H1 pl=none)(p:A0V H1 H3 pl xs ts many)(hc:H3 c=none)(hm:0<=m2)(hj0:0<=j)(hj:j<4)(ht:t.ok many)(hu:u.ok many)(ha:t.At H3 y)(hx:u.At H3 x)(z1:sz (ts++[u]++[t])<=i)(z2:(ts++[u]++[t]).length<=i):
  Tf H1 jl pl most many size (i+1) %[|105] (upd (upd H3 c (.tup [.str (jn j.toNat),x,y])) pl (.lst (xs++[.ref c]))):=by
 rw[Cq,Cq]at z1;rw[zA,zA]at z2;have z2':ts.length+1+1<=i:=z2;refine#[m2,_,_,_,_,ts++[.bn j.toNat u t],rfl,hm,p.put (t:=.bn j.toNat u t) np hc #[by omega,hu,ht] #[c,x,y,rfl,JH p.at' hc,hx.keep (Ee p.at' hc),ha.keep (Ee p.at' hc)],?_,?_,?_]
 ·rw[Cq];show sz ts+(u.size+t.size+1)<=i+1;omega
 ·rw[zA];show ts.length+1<=i+1;omega
 ·intro _;rw[zA];exact zBH _
theorem bE(h:sz ([]++[t])+([]++[t]:List Tr).length<=2*most):t.size+1<=2*most:=by
 rw[Cq]at h;have h':0+t.size+1<=2*most:=h;omega
inductive WV(H1:Hp)(jl:Addr)(pl:Addr)(most:Nat)(many:Nat)(size:Int)(k:Nat)(σ:L2.St)(H2:Hp):Prop|mk(m:Int)(tv dv rv:Option V)(xs:List V)(ts:List Tr)(_:σ=[some (.int m),some (.int most),some (.int many),some (.ref jl),some (.ref pl),some (.int size),tv,dv,rv])(_:0<=m)(_:A0V H1 H2 pl xs ts many)(_:sz ts+ts.length<=2*most)(_:ts.length=k)(_:0<k)
theorem XV{most many k:Nat}{size m2 j:Int}{xs:List V}{ts:List Tr}{tv dv rv:Option V}(np:H1 pl=none)(p:A0V H1 H3 pl xs ts many)(hc:H3 c=none)(hm:0<=m2)(hj0:0<=j)(hj:j<4)(ht:t.ok many)(hu:u.ok many)(ha:t.At H3 y)(hx:u.At H3 x)(z1:sz (ts++[u]++[t])+(ts++[u]++[t]).length<=2*most)(z2:(ts++[u]++[t]).length=k):
  ∃k',k'<k/\WV H1 jl pl most many size k' %[|105] (upd (upd H3 c (.tup [.str (jn j.toNat),x,y])) pl (.lst (xs++[.ref c]))):=by
 rw[Cq,Cq,zA,zA]at z1;rw[zA,zA]at z2;have z2':ts.length+1+1=k:=z2;have z1':sz ts+u.size+t.size+(ts.length+1+1)<=2*most:=z1;refine#[ts.length+1,by omega,m2,_,_,_,_,ts++[.bn j.toNat u t],rfl,hm,p.put (t:=.bn j.toNat u t) np hc #[by omega,hu,ht] #[c,x,y,rfl,JH p.at' hc,hx.keep (Ee p.at' hc),ha.keep (Ee p.at' hc)],?_,?_,zBH _]
 ·rw[Cq,zA];show sz ts+(u.size+t.size+1)+(ts.length+1)<=2*most;omega
 ·rw[zA];rfl
theorem Fo(de:%[|5]):%[|8] "_law_sentence" BC 1 UI:=by
 refine de.h4.ok A1G ?_;rintro bz f dm A outer s H _ Q E hr ⟨n,most,many,rfl,h0,dZ,dU,g7,hy2,q⟩
 refine#[_,Aa (AC 3 A1G.nd (Av (Ag Ae (Ag Ae (AN Ae Ae)))))
  (Aa (AC 4 A1G.nd (Av Bi))
  (Aa (AC 5 A1G.nd (Ap C2 Ad (Ap A4 (pv 0) (pv 1))))
  (Aa (AC 0 A1G.nd (Ap Bf (pv 0) (pv 1)))
  (Aa (BB zAR rfl (%[|68] (AI (pv 5))) (Bo 6 A1G.nd)
   (Aa (AC 7 A1G.nd (Ap A4 (pv 0) Ad))
   (Aa (AC 0 A1G.nd %[|55])
   (Ak (Aq (EW (AM AH (pv 7) Ad) (DC (AM (Nz hr.units0) (pv 4) (Av Bi)))).pt
    (Ak (As (A7 (pv 4) (AI (Bj (AN Ae (Cn (pv 4))))))))
    (Ak (Aq (EW (AM IC (pv 7) Ad) (DC (AM IC (%[|67] (AI (pv 4))) Ad))).pt
     (Aa (AC 8 A1G.nd (Cn (pv 4)))
     (Ak (As (A7 (pv 4) (AI (Bj (Ag (Am Ay (pv 3) (Ap JN (pv 7) Ad)) (AN (Cn (pv 4)) (pv 8)))))))))
     (Ak (As (A7 (pv 4) (AI (Bj (AN Ae (Ap A4 (pv 7) (pv 2)))))))))))))))
  (Aa (Ei zAR (AM IC (%[|67] (AI (pv 4))) Ad)
   (Aa (AC 8 A1G.nd (Cn (pv 4)))
   (Aa (As (A7 (pv 4) (AI (Bj (Ag (Am Ay (pv 3) (Ap A4 (pv 0) Ad)) (AN (Cn (pv 4)) (pv 8)))))))
   (Ak (AC 0 A1G.nd %[|55])))))
  (AX (Am Ay (pv 4) Ad))))))),?_]
 refine#[Z3,λjl hjl=>#[GD,λpl dE=>?_]];have sJ:A0B H (upd H jl (.lst A1A)):=Ab hjl _;have nJ:jl≠pl:=Ai (A0A (H:=H) (a:=jl) (o:=.lst A1A)) dE;refine#[%[|0],#[by omega,by omega],?_];have hsz0:=zA1 n (show (most:Int)≠0 by omega);have hsz1:=zA3 n (show (0:Int)<most by omega);have hn0:0<=n / (most:Int):=zCA h0 %[|0];have hs1:1<=1+n%(most:Int):=by omega
 have jz:1+n%(most:Int)<=most:=by omega
 refine#[%[|0],%[|0],Bn (n:=(1+n%(most:Int)).toNat) (Tf (upd H jl (.lst A1A)) jl pl most many (1+n%(most:Int))) ?_ ?_ ?_]
 ·exact#[_,none,none,none,[],[],rfl,hn0,#[Ab dE _,A0A,.nil,λt ht=>absurd ht %[|1]],zAA _,zAA _,λz=>z]
 ·rintro i σ H2 hi ⟨m,tv,dv,rv,xs,ts,rfl,hm,p,z1,z2,z3⟩;have dj:=p.len;have jh:i<12:=by omega
  have dU:0<=m / 10:=by omega
  have hd0:0<=m%10:=by omega
  have eK:m%10<10:=by omega
  have gG:∀{k:Nat},k<=12->k<sizeLine:=λh=>An (zAC h %[|2])
  refine#[(by show (0:Int)<10;decide),%[|43],?_];refine#[rfl,?_];refine Cb (λc1=>?_) (λc1=>?_)
  ·refine#[GD,λe he=>?_];have p3:A0V (upd H jl (.lst A1A)) (upd H2 e %[|9]) pl xs ts many:=p.new he;refine#[pl,e,xs,rfl,rfl,SqL.of p3.at',SqL.of A0A,?_];refine Cb (λc2=>?_) (λc2=>?_)
   ·have fS:0<ts.length:=by
     cases xs with
     |nil=>exact absurd c2 %[|2]
     |cons x r=>rw[<-dj];exact zBH _
    obtain⟨y,fQ,t,ey,rfl,okt,ha,p4⟩:=p3.pop dE fS;have jq:=p4.len;rw[zA]at z2;have z2':fQ.length+1<=i:=z2;refine#[.inl #[rfl,_,SqL.of p3.at'],.inl #[rfl,_,SqL.of p3.at'],p3.at',ey,C4,λc hc=>#[(Ab hc _) _ _ p4.at',gG %[|0],?_]];exact SH dE p4 hc dU okt ha z1 (by rw[zA];exact z2)
   ·
    refine ?_;refine Cb (λc3=>?_) (λc3=>?_)
    ·refine#[.inl (SqL.of p3.at'),?_];refine Cb (λc4=>?_) (λc4=>?_)
     ·exfalso
      have:xs=[]:=by
       cases xs with
       |nil=>rfl
       |cons x r=>exact absurd rfl c2
      subst this;exact absurd c4 %[|2]
     ·refine#[.inl #[rfl,_,SqL.of p3.at'],%[|0],C4,λc hc=>#[(Ab hc _) _ _ p3.at',gG %[|0],?_]];exact FF dE p3 hc g7 dU z1 z2
    ·refine Aw ?_;refine#[.inl #[rfl,_,SqL.of p3.at'],%[|0],C4,λc hc=>#[(Ab hc _) _ _ p3.at',gG %[|0],?_]];exact FF dE p3 hc g7 dU z1 z2
  ·refine Aw ?_;refine ?_;refine Cb (λc3=>?_) (λc3=>?_)
   ·have c3':(5:Int)<m%10:=of_decide_eq_true c3;refine#[.inl (SqL.of p.at'),?_];refine Cb (λc4=>?_) (λc4=>?_)
    ·have c4':(1:Int)<(xs.length:Nat):=of_decide_eq_true c4;obtain⟨y,fQ,t,ey,rfl,okt,ha,p4⟩:=p.pop dE %[|0];rw[zA]at dj;have hlen':xs.length=fQ.length+1:=dj;obtain⟨x,ts2,u,ex,rfl,oku,hax,p5⟩:=p4.pop dE %[|0];have hl5:=p5.len;rw[zA,zA]at z2;have z2':ts2.length+1+1<=i:=z2;refine#[.inl #[rfl,_,SqL.of p.at'],p.at',ey,?_];refine#[.inl #[rfl,_,SqL.of p4.at'],SqL.of (p4.sm _ _ A0A),LI %[|0] %[|0],.inl #[rfl,_,SqL.of p4.at'],p4.at',ex,ML,λc hc=>#[(Ab hc _) _ _ p5.at',gG %[|0],?_]];exact Vj dE p5 hc dU %[|0] %[|0] okt oku (ha.keep (TS.lst p4.at')) hax z1 (by rw[zA,zA];exact z2)
    ·refine#[.inl #[rfl,_,SqL.of p.at'],%[|0],C4,λc hc=>#[(Ab hc _) _ _ p.at',gG %[|0],?_]];exact FF dE p hc g7 dU z1 z2
   ·refine Aw ?_;refine#[.inl #[rfl,_,SqL.of p.at'],%[|0],C4,λc hc=>#[(Ab hc _) _ _ p.at',gG %[|0],?_]];exact FF dE p hc g7 dU z1 z2
 ·rintro σ H2 ⟨m,tv,dv,rv,xs,ts,rfl,hm,p,z1,z2,z3⟩;have z3':=z3 %[|0];refine#[WV (upd H jl (.lst A1A)) jl pl most many (1+n%(most:Int)),#[ts.length,m,tv,dv,rv,xs,ts,rfl,hm,p,by omega,rfl,z3'],?_];rintro k σ H3 ⟨m,tv,dv,rv,xs,ts,rfl,hm,p,z1,z2,z3⟩;have dj:=p.len;have dU:0<=m / 4:=by omega
  have gG:∀{k:Nat},k<=24->k<sizeLine:=λh=>An (zAC h %[|2])
  refine#[.inl (SqL.of p.at'),?_];refine Cb (λc4=>?_) (λc4=>?_)
  ·have c4':(1:Int)<(xs.length:Nat):=of_decide_eq_true c4;refine#[λσ' H'=>∃k',k'<k/\WV (upd H jl (.lst A1A)) jl pl most many (1+n%(most:Int)) k' σ' H',λ_ _ h=>h,?_];obtain⟨y,fQ,t,ey,rfl,okt,ha,p4⟩:=p.pop dE %[|0];rw[zA]at dj;have hlen':xs.length=fQ.length+1:=dj;obtain⟨x,ts2,u,ex,rfl,oku,hax,p5⟩:=p4.pop dE %[|0];have hl5:=p5.len
   have z2':ts2.length+1+1=k:=by
    rw[zA,zA]at z2;exact z2
   refine#[.inl #[rfl,_,SqL.of p.at'],p.at',ey,?_];refine#[.inl #[rfl,_,SqL.of p4.at'],(by show (0:Int)<4;decide),SqL.of (p4.sm _ _ A0A),LI %[|0] %[|0],.inl #[rfl,_,SqL.of p4.at'],p4.at',ex,ML,λc hc=>#[(Ab hc _) _ _ p5.at',gG %[|0],?_]];refine#[%[|43],?_];exact XV dE p5 hc dU %[|0] %[|0] okt oku (ha.keep (TS.lst p4.at')) hax z1 z2
  ·have c4':¬(1:Int)<(xs.length:Nat):=of_decide_eq_false (Bool.eq_false_iff.mpr c4);obtain⟨gR,y,fQ,t,rfl,rfl,q1,a⟩:=p.pile.last %[|0];rw[zA]at c4'
   have e0:gR=[]:=by
    have c5:¬(1:Int)<((gR.length+1:Nat):Int):=c4';exact List.length_eq_zero_iff.mp %[|0]
   subst e0;cases q1;refine#[SqL.of p.at',Ac (j:=0) rfl,?_];exact q y t _ (sJ.trans p.sm) a (p.ok t %[|1]) (bE z1)
end
def jc:Nat->Nat
 |0=>38
 |1=>124
 |2=>62
 |_=>61
def BZ:Tr->List Nat
 |.lt k=>[97+k]
 |.nt t=>45::BZ t
 |.bn j a b=>40::(BZ a++jc j::(BZ b++[41]))
theorem B2:∀t:Tr,(BZ t).length<=4*t.size
 |.lt _=>by show 1<=4*1;decide
 |.nt t=>by
  have:=B2 t;show (BZ t).length+1<=4*(t.size+1);omega
 |.bn j a b=>by
  have h1:=B2 a;have h2:=B2 b;show (BZ a++jc j::(BZ b++[41])).length+1<=4*(a.size+b.size+1);rw[zA,zAO,zA];show (BZ a).length+((BZ b).length+1+1)+1<=_;omega
abbrev Em(z:Str):List Nat:=z.cps.toList
theorem Bq(z:Str):z.length=(Em z).length:=by
 show z.cps.size=z.cps.toList.length;simp
theorem AR(a b:Str):Em (a++b)=Em a++Em b:=cps_toList_append a b
theorem EC{k:Nat}(h:k<5):DR (Em ("abcde":Str)) (k:Int)=some (97+k):=by
 refine Ac ?_
 match k,h with
 |0,_=>rfl
 |1,_=>rfl
 |2,_=>rfl
 |3,_=>rfl
 |4,_=>rfl
theorem NZ{j:Nat}(h:j<4):DR (Em ("&|>=":Str)) (j:Int)=some (jc j):=by
 refine Ac ?_
 match j,h with
 |0,_=>rfl
 |1,_=>rfl
 |2,_=>rfl
 |3,_=>rfl
theorem Mj:A1A.all C9=true:=rfl
theorem Rx(h:j<4):A1A[j]? = some (.str (jn j))/\MM (.str (jn j)) (.str (jn j))=true/\∀m c,m<j->A1A[m]? = some c->MM c (.str (jn j))=false:=by
 match j,h with
 |0,_=>exact#[rfl,by decide,λm c hm=>absurd hm (zCJ _)]
 |1,_=>
  refine#[rfl,by decide,λm c hm e=>?_]
  match m,hm with
  |0,_=>cases e;decide
 |2,_=>
  refine#[rfl,by decide,λm c hm e=>?_]
  match m,hm with
  |0,_=>cases e;decide
  |1,_=>cases e;decide
 |3,_=>
  refine#[rfl,by decide,λm c hm e=>?_]
  match m,hm with
  |0,_=>cases e;decide
  |1,_=>cases e;decide
  |2,_=>cases e;decide
theorem FU:¬(V.str (jn j)=V.str "let"):=by
 match j with
 |0=>decide
 |1=>decide
 |2=>decide
 |_+3=>show ¬(V.str "same"=V.str "let");decide
theorem JP:¬(V.str (jn j)=V.str "not"):=by
 match j with
 |0=>decide
 |1=>decide
 |2=>decide
 |_+3=>show ¬(V.str "same"=V.str "not");decide
theorem BL[Decidable c](h:c)(a:A):If (decide c) A B:=.tt (decide_eq_true h) a
theorem Bz[Decidable c](h:¬c)(b:B):If (decide c) A B:=.ff (decide_eq_false h) b
def MN:Tr->List Tr
 |.lt _=>[]
 |.nt t=>[t]
 |.bn _ a b=>[a,b]
def CL(ts:List Tr):List Tr:=ts.flatMap MN
theorem Lq(a b:List Tr):CL (a++b)=CL a++CL b:=by
 unfold CL;rw[List.flatMap_append]
theorem Mv(t:Tr):CL [t]=MN t:=by
 unfold CL;simp
theorem Ge{ts:List Tr}{i:Nat}(h:ts[i]? = some t):CL (ts.take (i+1))=CL (ts.take i)++MN t:=by
 rw[zAQ,h,Lq]
 congr 1
 exact Mv t
theorem SU(a b:List Tr):sz (a++b)=sz a+sz b:=by
 unfold sz;rw[List.map_append,zCR]
theorem To:∀t:Tr,sz (MN t)+1=t.size
 |.lt _=>rfl
 |.nt t=>by
  have:sz [t]=t.size:=by unfold sz;simp
  show sz [t]+1=t.size+1;rw[this]
 |.bn _ a b=>by
  have:sz [a,b]=a.size+b.size:=by unfold sz;simp
  show sz [a,b]+1=a.size+b.size+1;rw[this]
theorem JL(t:Tr)(r:List Tr):sz (t::r)=t.size+sz r:=by
 unfold sz;rw[zAS,zBQ]
theorem O0(ts:List Tr):sz (CL ts)+ts.length=sz ts:=by
 induction ts with
 |nil=>rfl
 |cons t r ih=>
  have h:=To t;rw[JL];show sz (MN t++CL r)+(r.length+1)=_;rw[SU];omega
theorem JG(ts:List Tr):ts.length<=sz ts:=by
 induction ts with
 |nil=>exact zAA _
 |cons t r ih=>
  have h:=t.size_pos;rw[JL];show r.length+1<=_;omega
theorem KP(h:ts[i]? = some t):(CL (ts.take i)++(MN t).take j).length<=sz ts:=by
 have e1:ts=ts.take (i+1)++ts.drop (i+1):=(zC _ _).symm
 have h1:(CL (ts.take (i+1))).length<=(CL ts).length:=by
  have h2:(CL ts).length=(CL (ts.take (i+1))).length+(CL (ts.drop (i+1))).length:=by
   rw[<-zA,<-Lq,zC]
  omega
 have h3:=JG (CL ts);have h4:=O0 ts;rw[Ge h,zA]at h1;rw[zA,zAW];omega
theorem B5{H:Hp}:∀{xs:List V}{ts:List Tr}{i:Nat}{x:V},A0J H xs ts->xs[i]? = some x->∃t,ts[i]? = some t/\Tr.At H t x
 |_,_,_,_,.nil,e=>by simp at e
 |_,_,0,_,.cons r _,e=>by
  simp at e;subst e;exact#[_,rfl,r]
 |_,_,i+1,x,.cons _ q,e=>by
  obtain⟨t,h1,h2⟩:=B5 (i:=i) q (by simpa using e);exact#[t,by simpa using h1,h2]
theorem Yx(h:t.At H v):Fb λp z cs=>BV (v=.ref p) (H p=some (.tup (z::cs))) ((z=.str "let"/\MN t=[])\/(¬(z=.str "let")/\(∃x,z=.str x)/\A0J H cs (MN t)/\0<cs.length/\cs.length<=2)):=by
 cases t with
 |lt k=>
  obtain⟨p,e,hp⟩:=h;exact#[p,_,_,e,hp,.inl #[rfl,rfl]]
 |nt t=>
  obtain⟨p,u,e,hp,ha⟩:=h;exact#[p,_,_,e,hp,.inr #[by decide,#[_,rfl],.cons ha .nil,zBH _,by show 1<=2;decide]]
 |bn j a b=>
  obtain⟨p,x,y,e,hp,ha,hb⟩:=h;exact#[p,_,_,e,hp,.inr #[FU,#[_,rfl],.cons ha (.cons hb .nil),zBH _,zAA _]]
theorem aH(z:V)(cs:List V):GG (z::cs) (some 1) none=cs:=by
 unfold GG
 have e1:HT.sIx (z::cs).length 0 (some 1)=1:=by
  have:=HT.sIx_nat (z::cs).length 0 1;show HT.sIx (z::cs).length 0 (some ((1:Nat):Int))=1;rw[this,zAO];omega
 rw[e1,HT.sIx_none];show ((z::cs).drop 1).take (cs.length+1-1)=cs;simp
theorem Sq{cs:List V}:¬(HT.sIx (z::cs).length 0 (some 1)=0/\HT.sIx (z::cs).length (z::cs).length none=(z::cs).length):=by
 rintro⟨h,_⟩;have:=HT.sIx_nat (z::cs).length 0 1;rw[show (some (1:Int))=some ((1:Nat):Int) from rfl,this,zAO]at h;omega
theorem UW[Decidable c](hc:¬c)(h:A):If (!decide c) A B:=.tt (by rw[decide_eq_false hc];rfl) h
def D2(k:Nat)(w:Int):Bool:=decide (w / 2^k%2=1)
def jv:Nat->Bool->Bool->Bool
 |0,a,b=>a && b
 |1,a,b=>a || b
 |2,a,b=>!a || b
 |_,a,b=>decide (a=b)
def tv:Tr->Int->Bool
 |.lt k,w=>D2 k w
 |.nt t,w=>!tv t w
 |.bn j a b,w=>jv j (tv a w) (tv b w)
def Ys:List V:=[.int 1,.int 2,.int 4,.int 8,.int 16]
theorem RD(h:k<5):DR Ys ((k:Nat):Int)=some (.int (2^k)):=by
 refine Ac ?_
 match k,h with
 |0,_=>rfl
 |1,_=>rfl
 |2,_=>rfl
 |3,_=>rfl
 |4,_=>rfl
theorem pow_pos(k:Nat):(0:Int)<2^k:=Int.pow_pos %[|2]
theorem Tv(h:k<5):(2:Int)^k<1073741824:=by
 match k,h with
 |0,_=>decide
 |1,_=>decide
 |2,_=>decide
 |3,_=>decide
 |4,_=>decide
theorem M3(k:Nat)(w:Int):decide (V.int (w / 2^k%2)=V.int 1)=D2 k w:=by
 unfold D2;rw[zA4,decide_eq_true_eq,decide_eq_true_eq];exact#[λh=>by injection h,λh=>by rw[h]]
theorem OI(a b:Bool):decide (V.bl a=V.bl b)=decide (a=b):=by cases a<;>cases b<;>rfl
theorem cy(h:V.str (jn j)=V.str "and"):j=0:=by
 match j with
 |0=>rfl
 |1=>exact absurd h %[|2]
 |2=>exact absurd h %[|2]
 |_+3=>exact absurd (show V.str "same"=V.str "and" from h) %[|2]
theorem cx(h:V.str (jn j)=V.str "or"):j=1:=by
 match j with
 |0=>exact absurd h %[|2]
 |1=>rfl
 |2=>exact absurd h %[|2]
 |_+3=>exact absurd (show V.str "same"=V.str "or" from h) %[|2]
theorem cr(h:V.str (jn j)=V.str "if"):j=2:=by
 match j with
 |0=>exact absurd h %[|2]
 |1=>exact absurd h %[|2]
 |2=>rfl
 |_+3=>exact absurd (show V.str "same"=V.str "if" from h) %[|2]
theorem cv(h0:¬V.str (jn j)=V.str "and")(h1:¬V.str (jn j)=V.str "or")(h2:¬V.str (jn j)=V.str "if")(a b:Bool):jv j a b=decide (a=b):=by
 match j with
 |0=>exact absurd rfl h0
 |1=>exact absurd rfl h1
 |2=>exact absurd rfl h2
 |_+3=>rfl
theorem Bh:bootBuiltins "list"=some (.type "list"):=by decide +kernel
abbrev AK(H:Hp)(p:Addr)(row:List Int):Prop:=H p=some (.lst %[|86])
abbrev A0F(H:Hp):List V->%[|25]->Prop:=Paired λ(v:V)(row:List Int)=>∃p,v=.ref p/\AK H p row
theorem A0F.keep{H H':Hp}(s:A0B H H'):∀{xs:List V}{rs:%[|25]},A0F H xs rs->A0F H' xs rs
 |_,_,.nil=>.nil
 |_,_,.cons ⟨p,e,h⟩ q=>.cons #[p,e,s _ _ h] (A0F.keep s q)
theorem A0F.get{H:Hp}:∀{xs:List V}{rs:%[|25]}{i:Nat}{x:V},A0F H xs rs->xs[i]? = some x->Cd λrow p=>BV (rs[i]? = some row) (x=.ref p) (AK H p row)
 |_,_,_,_,.nil,e=>by simp at e
 |_,_,0,_,.cons ⟨p,e1,h⟩ _,e=>by
  simp at e;subst e;exact#[_,p,rfl,e1,h]
 |_,_,i+1,x,.cons _ q,e=>by
  obtain⟨row,p,h1,h2,h3⟩:=A0F.get (i:=i) q (by simpa using e);exact#[row,p,by simpa using h1,h2,h3]
theorem A0F.len(h:A0F H xs rs):xs.length=rs.length:=zBV h
def XJ:List V:=[.int 2,.int 4,.int 8,.int 16,.int 32]
theorem VY{m:Nat}(h1:1<=m)(h5:m<=5):DR XJ ((m:Int)-1)=some (.int ((2^m:Nat):Int)):=by
 match m,h1,h5 with
 |1,_,_=>exact Ac (j:=0) rfl
 |2,_,_=>exact Ac (j:=1) rfl
 |3,_,_=>exact Ac (j:=2) rfl
 |4,_,_=>exact Ac (j:=3) rfl
 |5,_,_=>exact Ac (j:=4) rfl
theorem M5(h:m<=5):2^m<=32:=Nat.pow_le_pow_right (n:=2) %[|2] h
theorem UU(n:Nat):(Dw n).length=n:=by unfold Dw;simp
theorem Vz(n:Nat):(Dw n).Pairwise (· < ·):=by
 unfold Dw;rw[List.pairwise_map];exact List.pairwise_lt_range.imp λh=>by omega
theorem A1V:k∈Dw n↔0<=k/\k<n:=by
 unfold Dw;rw[List.mem_map];constructor
 ·rintro⟨a,ha,rfl⟩;have:=List.mem_range.mp ha;omega
 ·rintro⟨h0,h1⟩;exact#[k.toNat,List.mem_range.mpr %[|0],by omega]
inductive Hv(vs:List V)(H:Hp)(Q:VK)(E:XK):Prop|mk(m:Nat)(_:vs=[.int (m:Int)])(_:1<=m)(_:m<=5)(_:∀(l:Addr)(H':Hp),A0B H H'->H l=none->AK H' l (Dw (2^m))->Q (.ref l) H')
section
def Rf:=Au LN ["_law_many"] 1
theorem HY(de:%[|5]):%[|8] "_law_worlds" BC 1 Hv:=by
 refine de.h3.ok Rf ?_;rintro bz f dm A outer s H _ Q E hr ⟨m,rfl,h1,h5,q⟩;refine#[_,AX (AJ (HG rfl) %[|10] de.T.lst Bh (AI (AJ Gf %[|10] de.T.rng boot_range (AI (Am Ay (Av (Ag Ad (Ag Ad (Ag Ad (AN Ad Ad))))) (Ap JN (pv 0) Ad)))))),?_];refine#[SK,λl hl=>?_];have s1:=Ab hl (.lst XJ);refine#[SqL.of A0A,VY h1 h5,_,rfl,λr fu=>?_];have s2:=Ab fu (.rng 0 ((2^m:Nat):Int));refine#[r,2^m,rfl,A0A,zAC (M5 h5) %[|2],λl2 dG=>?_];have s3:=Ab dG (.lst ((Dw (2^m)).map V.int));exact q l2 _ (s1.trans (s2.trans s3)) ((s1.trans s2).free dG) A0A
end
inductive HW(n:Nat)(vs:List V)(H:Hp)(Q:VK)(E:XK):Prop|mk(v:V)(t:Tr)(w:Int)(_:vs=[v,.int w])(_:t.At H v)(_:t.ok 5)(_:t.size<=n)(_:∀(H':Hp),A0B H H'->Q (.bl (tv t w)) H')
section
def A2M:=Au JQ ["_law_sentence_here","_law_world","_law_left","_law_right"] 2
theorem U5(F:%[|7] "_law_true" JQ)(G:%[|8] "_law_true" BC n (HW n)):%[|8] "_law_true" BC (n+1) (HW (n+1)):=by
 refine F.ok A2M ?_;rintro bz f dm A outer s H _ Q E hr ⟨v,t,k,rfl,ha,hok,hs,q⟩
 refine#[_,Aa (Aq (AM AH %[|50] Ae)
   (AX (BF AH (Ap A4 (Ap Bf (pv 1) (Am Ay (Av (Ag Ad (Ag Ad (Ag Ad (AN Ad Ad))))) %[|50])) Ad) Ad (Cl _)))
   Ah)
  (Aa (Aq (AM AH %[|50] Ae)
   (AX (HL (Ax G hr Al (AN %[|50] (pv 1)))))
   Ah)
  (Aa (AC 2 A2M.nd (Ax G hr Al (AN %[|50] (pv 1))))
  (Aa (AC 3 A2M.nd (Ax G hr Al (AN %[|50] (pv 1))))
  (Aa (Aq (AM AH %[|50] Ae)
   (AX (MO (pv 2) (DD (pv 3))))
   Ah)
  (Aa (Aq (AM AH %[|50] Ae)
   (AX (IA (pv 2) (DD (pv 3))))
   Ah)
  (Aa (Aq (AM AH %[|50] Ae)
   (AX (IA (HL (pv 2)) (DD (pv 3))))
   Ah)
  (AX (BF AH (pv 2) (pv 3) (Cl _))))))))),?_]
 cases t with
 |lt j=>
  obtain⟨p,rfl,hp⟩:=ha;exists 8;refine BL rfl ?_;refine#[SK,λl hl=>?_];have s1:=Ab hl (.lst Ys);refine#[SqT.of (s1 _ _ hp),Ac (j:=1) rfl,SqL.of A0A,RD hok,#[pow_pos j,Tv hok],(by show (0:Int)<2;decide),rfl,?_];have:=q _ s1;rw[show tv (.lt j) k=D2 j k from rfl,<-M3]at this;exact this
 |nt t=>
  obtain⟨p,u,rfl,hp,hu⟩:=ha;have hs':t.size+1<=n+1:=hs;exists 8;refine Bz %[|2] ?_;exists 8;refine BL rfl ?_;exact#[SqT.of hp,Ac (j:=1) rfl,u,t,k,rfl,hu,hok,by omega,λH' s'=>q H' s']
 |bn j a b=>
  obtain⟨p,x,y,rfl,hp,hx,hy⟩:=ha;have hs':a.size+b.size+1<=n+1:=hs;obtain⟨hj,oa,ob⟩:=hok;exists 8;refine Bz FU ?_;exists 8;refine Bz JP ?_;refine#[SqT.of hp,Ac (j:=1) rfl,x,a,k,rfl,hx,oa,by omega,λH1 s1=>?_];refine#[SqT.of (s1 _ _ hp),Ac (j:=2) rfl,y,b,k,rfl,hy.keep (TS.same s1),ob,by omega,λH2 s2=>?_];have fK:=s2 _ _ (s1 _ _ hp);have q2:=q H2 (s1.trans s2);have etv:tv (.bn j a b) k=jv j (tv a k) (tv b k):=rfl;rw[etv]at q2;generalize tv a k=va at q2;generalize tv b k=vb at q2;refine#[SqT.of fK,Ac (j:=0) rfl,rfl,?_];by_cases h0:V.str (jn j)=V.str "and"
  ·refine BL h0 ?_;obtain rfl:=cy h0
   cases va with
   |false=>exact Aw q2
   |true=>exact AD q2
  refine Bz h0 ?_;refine#[SqT.of fK,Ac (j:=0) rfl,rfl,?_];by_cases h1:V.str (jn j)=V.str "or"
  ·refine BL h1 ?_;obtain rfl:=cx h1
   cases va with
   |false=>exact Aw q2
   |true=>exact AD q2
  refine Bz h1 ?_;refine#[SqT.of fK,Ac (j:=0) rfl,rfl,?_];by_cases h2:V.str (jn j)=V.str "if"
  ·refine BL h2 ?_;obtain rfl:=cr h2
   cases va with
   |false=>exact AD q2
   |true=>exact Aw q2
  refine Bz h2 ?_;rw[cv h0 h1 h2]at q2;refine#[rfl,?_];rw[OI];exact q2
theorem Y1(F:%[|7] "_law_true" JQ):%[|8] "_law_true" BC 0 (HW 0):=F.no ["_law_sentence_here","_law_world"] λvs H Q E h=>by
  obtain⟨v,t,k,_,_,_,h1,_⟩:=h;have:=t.size_pos;omega
theorem Ci(de:%[|5]):∀n:Nat,%[|8] "_law_true" BC n (HW n)
 |0=>Y1 de.h5
 |n+1=>U5 de.h5 (Ci de n)
end
inductive Xh(K:PySem.W.Frag)(b:Bool)(vs:List V)(H:Hp)(Q:VK)(E:XK):Prop|mk(v:V)(t:Tr)(r:Addr)(row:List Int)(_:vs=[v,.ref r])(_:t.At H v)(_:t.ok 5)(_:t.size<=23)(_:%[|70])(_:row.length<=900)(_:∀(l:Addr)(H':Hp),A0B H H'->H l=none->AK H' l (row.filter λk=>tv t k == b)->Q (.ref l) H')
section
def Zt:=Au Xx ["_law_sentence_here","_law_row"] 2
theorem Ki(de:%[|5]):%[|8] "_law_ins" BC 24 (Xh K true):=by
 refine de.h6.ok Zt ?_;rintro bz f dm A outer s H _ Q E hr ⟨v,t,r,row,rfl,ha,hok,hs,hS,hl,q⟩;refine#[_,AX (A8 (N:=["_law_world","_law_sentence_here"]) (js:=[none,some 0]) (cl:=[("_law_sentence_here",s.heap.objs.size+1)]) #[rfl,rfl,rfl,(by intro p hp;simp at hp;rcases hp with rfl<;>rfl),rfl,rfl,rfl] (AT (pv 1)) %[|94] (λc1=>(CS (Bv %[|92]))) (λc1=>(pv 0))),?_];refine#[#[_,hS],λcc acc dq=>BO (p:=λk=>tv t k == true) (rest:=[some v]) hS dq hl (λk hk H2 s2 R hR=>?_) (λv0 H2 s2 h2=>q acc H2 s2 dq h2) none];refine#[v,t,k,rfl,ha.keep (TS.same s2),hok,hs,λH3 s3=>?_];have:=hR H3 s3;rw[show (tv t k == true)=tv t k by cases tv t k<;>rfl]at this;exact this
end
def AG(b:Bool)(t:Tr)(row:List Int):List Int:=row.filter λk=>tv t k == b
theorem Sa(t:Tr)(row:List Int):(%[|15] row).length+(%[|29] row).length=row.length:=by
 unfold AG
 induction row with
 |nil=>rfl
 |cons k r ih=>
  cases h:tv t k with
  |true=>simp[h]at ih ⊢;omega
  |false=>simp[h]at ih ⊢;omega
def AS(z:Str)(t:Tr)(row:List Int):List %[|109]:=if z="true" then[%[|15] row]else if z="false" then[%[|29] row]else[%[|15] row,%[|29] row]
def C1(row:List Int)(sides:%[|25]):List Int:=row.filter λk=>sides.any λs=>decide (k∈s)
def AO(sides:%[|25])(row:List Int):Bool:=sides.all λs=>s.any λk=>decide (k∈row)
inductive RU(n:Nat)(vs:List V)(H:Hp)(Q:VK)(E:XK):Prop|mk(v:V)(t:Tr)(_:vs=[v])(_:t.At H v)(_:t.ok 5)(_:t.size<=n)(_:t.size<=23)(_:∀(z:Str)(H':Hp),Em z=BZ t->A0B H H'->Q (.str z) H')
section
def scLsh:=Au V0 ["_law_sentence_here","_law_joint"] 1
theorem YI(F:%[|7] "_law_shown" V0)(G:%[|8] "_law_shown" BC n (RU n)):%[|8] "_law_shown" BC (n+1) (RU (n+1)):=by
 refine F.ok scLsh ?_;rintro bz f dm A outer s H _ Q E hr ⟨v,t,rfl,ha,hok,hs,jz,q⟩
 refine#[_,Aa (Aq (AM AH %[|50] Ae) (AX (Am F0 Ae %[|50])) Ah)
  (Aa (Aq (AM AH %[|50] Ae) (AX (Ap A6 Ae (Ax G hr Al (AI %[|50])))) Ah)
  (Aa (AC 1 scLsh.nd (Am F0 Ae (Eh zBL PySem.F.slot_list_index PySem.F.type_list_index RH (Av (Ag Ae (Ag Ae (AN Ae Ae)))) (AI %[|50]))))
  (AX (Ap A6 (Ap A6 (Ap A6 (Ap A6 Ae (Ax G hr Al (AI %[|50]))) (pv 1)) (Ax G hr Al (AI %[|50]))) Ae)))),?_]
 have fL:∀{k:Nat},k<=1000->k<=sizeLine:=Dv
 cases t with
 |lt k=>
  obtain⟨p,rfl,hp⟩:=ha;exists 8;refine BL rfl ?_;refine#[SqT.of hp,Ac (j:=1) rfl,_,_,_,rfl,rfl,SK,EC hok,?_];exact q _ H rfl (A0B.refl H)
 |nt t=>
  obtain⟨p,u,rfl,hp,ha⟩:=ha;have hs3:t.size+1<=n+1:=hs;have hs4:t.size+1<=23:=jz;exists 8;refine Bz %[|2] ?_;exists 8;refine BL rfl ?_;refine#[SqT.of hp,Ac (j:=1) rfl,u,t,rfl,ha,hok,by omega,by omega,λz H' ez sm=>?_]
  have hz:z.length<=92:=by
   rw[Bq,ez];have:=B2 t;omega
  refine#[?_,?_]
  ·show 1+z.length<=sizeLine;exact fL %[|0]
  ·refine q _ H' ?_ sm;rw[AR,ez];rfl
 |bn j a b=>
  obtain⟨p,x,y,rfl,hp,hx,hy⟩:=ha;obtain⟨hj,oka,okb⟩:=hok;have hs3:a.size+b.size+1<=n+1:=hs;have hs4:a.size+b.size+1<=23:=jz;exists 8;refine Bz FU ?_;exists 8;refine Bz JP ?_;refine#[Z3,λl hl=>?_];have s1:A0B H (upd H l (.lst A1A)):=Ab hl _;obtain⟨i1,i2,i3⟩:=Rx hj;refine#[.inl #[rfl,A1A,SqL.of A0A],SqT.of (s1 _ _ hp),Ac (j:=0) rfl,l,A1A,_,j,_,rfl,rfl,SqL.of A0A,rfl,Mj,i1,i2,i3,_,_,_,rfl,rfl,Z3,NZ hj,?_];refine#[SqT.of (s1 _ _ hp),Ac (j:=1) rfl,x,a,rfl,hx.keep (TS.same s1),oka,by omega,by omega,λza H2 ea s2=>?_]
  have la:za.length<=92:=by
   rw[Bq,ea];have:=B2 a;omega
  refine#[fL (by show 1+za.length<=1000;omega),?_,SqT.of (s2 _ _ (s1 _ _ hp)),Ac (j:=2) rfl,y,b,rfl,hy.keep (TS.same (s1.trans s2)),okb,by omega,by omega,λzb H3 eb s3=>?_]
  ·rw[Bq,AR,ea];refine fL ?_;have:=B2 a;show (Em "("++BZ a).length+1<=1000;rw[zA];show 1+(BZ a).length+1<=1000;omega
  have h1:=B2 a;have h2:=B2 b;refine#[?_,?_,q _ H3 ?_ (s1.trans (s2.trans s3))]
  ·rw[Bq,Bq zb,AR,AR,ea,eb];refine fL ?_;rw[zA,zA];show 1+(BZ a).length+1+(BZ b).length<=1000;omega
  ·rw[Bq,AR,AR,AR,ea,eb];refine fL ?_;rw[zA,zA,zA];show 1+(BZ a).length+1+(BZ b).length+1<=1000;omega
  ·rw[AR,AR,AR,AR,ea,eb];show (([40]++BZ a)++[jc j])++BZ b++[41]=40::(BZ a++jc j::(BZ b++[41]));simp
theorem bo(F:%[|7] "_law_shown" V0):%[|8] "_law_shown" BC 0 (RU 0):=F.no ["_law_sentence_here"] λvs H Q E h=>by
  obtain⟨v,t,_,_,_,h1,_⟩:=h;have:=t.size_pos;omega
theorem GK(de:%[|5]):∀n:Nat,%[|8] "_law_shown" BC n (RU n)
 |0=>bo de.h8
 |n+1=>YI de.h8 (GK de n)
end
inductive Mu(K:PySem.W.Frag)(vs:List V)(H:Hp)(Q:VK)(E:XK):Prop|mk(sd r:Addr)(row:List Int)(xs:List V)(sides:%[|25])(_:vs=[.ref sd,.ref r])(_:%[|70])(_:row.length<=900)(_:SqL K H sd xs)(_:A0F H xs sides)(_:(∀s∈sides,s.length<=900))(_:∀(H':Hp),A0B H H'->Q (.bl (AO sides row)) H')
section
variable {f:Addr}
def A2N:=Au K4 ["_law_sides","_law_row","_law_side"] 2
theorem ES(de:%[|5]):%[|8] "_law_stands" BC 1 (Mu K):=by
 refine de.h23.ok A2N ?_;rintro bz f dm A outer s H _ Q E hr ⟨sd,r,row,xs,sides,rfl,hS,hl,hX,hR,d3,q⟩
 refine#[_,Aa (BB zAR rfl (AT (pv 0)) (Bo 2 A2N.nd)
   (Ak (Aq (Ct (Bv (AQ (JD rfl) %[|10] de.T.any boot_any (AI (A8 (N:=["_law_world","_law_row"]) (js:=[none,some 1]) (cl:=[("_law_row",s.heap.objs.size+1)]) #[rfl,rfl,rfl,(by intro p hp;simp at hp;rcases hp with rfl<;>rfl),rfl,rfl,rfl] (AT (pv 2)) (λc1=>(Bo 0 (show (["_law_world","_law_row"]:List Str).Nodup by decide +kernel))) (λc1=>Bk) (λc1=>(BF Ez (pv 0) (pv 1) %[|32])))))))
    (AX BN)
    Ah)))
  (AX BN),?_]
 refine#[#[_,hX],A0 (K:=K) (a:=sd) (xs:=xs) (λi σ H2=>∃sv,BV (σ=[some (.ref sd),some (.ref r),sv]) (A0B H H2) ((sides.take i).all (λs=>s.any λk=>decide (k∈row))=true)) #[_,rfl,A0B.refl _,rfl] ?_ ?_ ?_]
 ·rintro i σ H2 _ ⟨sv,rfl,s2,_⟩;exact s2.seq hX
 ·rintro i x σ H2 hx ⟨sv,rfl,s2,hall⟩;obtain⟨gh,p,fu,rfl,hp⟩:=hR.get hx;have fK:=s2 _ _ hp;have et:sides.take (i+1)=sides.take i++[gh]:=by rw[zAQ,fu];rfl
  refine#[#[_,SqL.of fK],λc1 acc dq=>E9 (f:=λk=>decide (k∈row)) (rest:=[some (.ref r)]) (SqL.of fK) dq (d3 gh (zAJ fu)) (λk hk H3 s3 R3 hR3=>?_) (λv0 H3 s3 h3=>?_) none]
  ·exact Ze ((s2.trans s3).seq hS) (hR3 H3 (A0B.refl _))
  ·refine#[acc,_,rfl,SqL.of h3,?_];have e:(gh.map λk=>decide (k∈row)).any id=gh.any λk=>decide (k∈row):=by rw[zDQ];rfl
   rw[e]
   cases hq:gh.any λk=>decide (k∈row)with
   |false=>
    refine AD ?_
    have ef:AO sides row=false:=by
     unfold AO;rw[<-zC (i+1) sides,et,zDE,zDE,zC5,hq];simp
    have:=q H3 (s2.trans s3);rw[ef]at this;exact this
   |true=>
    refine Aw ?_;refine#[_,rfl,s2.trans s3,?_];rw[et,zDE,hall,zC5,hq];rfl
 ·rintro σ H2 ⟨sv,rfl,s2,hall⟩;rw[hR.len,zAP]at hall;have:=q H2 s2;unfold AO at this;rw[hall]at this;exact this
end
def Bu(seen row:List Int):Str:=if (seen.all λk=>decide (k∈row))=true then "grant" else if (seen.any λk=>decide (k∈row))=true then "doubt" else "deny"
def N2(xs row:List Int):List Int:=xs.filter λk=>decide (k∈row)
def EV(xs row:List Int):List Int:=xs.filter λk=>!decide (k∈row)
theorem Pe(xs row:List Int):N2 xs row=[]↔(xs.any λk=>decide (k∈row))=false:=by
 unfold N2;rw[List.filter_eq_nil_iff];constructor
 ·intro h;rw[Bool.eq_false_iff];intro z;obtain⟨k,hk,jp⟩:=List.any_eq_true.mp z;exact h k hk jp
 ·intro h k hk jp;have:(xs.any λk=>decide (k∈row))=true:=List.any_eq_true.mpr #[k,hk,jp];rw[h]at this;cases this
theorem Zh(xs row:List Int):(N2 xs row).length<=xs.length:=zAV _ _
theorem V8(xs row:List Int):(EV xs row).length<=xs.length:=zAV _ _
theorem Ej:(xs.map V.int).isEmpty=decide (xs=[]):=by cases xs<;>simp
def CO(sides:%[|25])(going seen row:List Int):Str:=
 if EV going row=[]then "grant" else if N2 going row=[]then "deny"
 else if Bu seen row="grant"/\AO sides (N2 going row)=false then "doubt"
 else if Bu seen row="deny"/\AO sides (EV going row)=false then "doubt" else Bu seen row
theorem Dz(e:σ.set i (some v)=σ')(h:N σ' H):({nx:=λ_ H'=>(λx H1=>Cr i x σ H1 N) v H',rt:=R,bk:=B,ct:=C}:BJ).nx σ0 H:=by
 subst e;exact h
theorem Da(Mid:L2.St->Hp->Prop)(h2:∀σ' H',Mid σ' H'->u D σ' H')(h1:(∀σ' H',Mid σ' H'->u D σ' H')->t {D with nx:=u D} σ H):({nx:=VZ t u D,rt:=R,bk:=B,ct:=C}:BJ).nx σ H:=h1 h2
theorem Yt(e:σ.set i (some v)=σ')(h:N σ' H):Cr i v σ H N:=by
 subst e;exact h
def Wr(row:List Int):Prop:=row.Pairwise (· < ·)/\∀k∈row,0<=k/\k<32
theorem Wr.sub(h:Wr b)(s:a.Sublist b):Wr a:=#[h.1.sublist s,λk hk=>h.2 k (s.subset hk)]
theorem Vh(h:m<=5):Wr (Dw (2^m)):=#[Vz _,λk hk=>by
 have:=A1V.mp hk
 have h2:=M5 h
 have:((2^m:Nat):Int)<=32:=by omega
 omega]
theorem Wr.len(h:Wr row):row.length<=32:=by
 have nd:row.Nodup:=h.1.imp λh=>by omega
 have:=FW (l2:=Dw 32) nd λk hk=>A1V.mpr (h.2 k hk)
 rw[UU]at this;exact this
theorem F7(h:s∈AS z t row):s.Sublist row:=by
 unfold AS at h;split at h
 ·rw[List.mem_singleton.mp h];exact zAM
 ·split at h
  ·rw[List.mem_singleton.mp h];exact zAM
  ·simp only[zAD,zAB,or_false]at h;rcases h with rfl|rfl
   ·exact zAM
   ·exact zAM
theorem Jr:(∃a,AS z t row=[a])\/Cd λa b=>AS z t row=[a,b]:=by
 unfold AS;split
 ·exact .inl #[_,rfl]
 ·split
  ·exact .inl #[_,rfl]
  ·exact .inr #[_,_,rfl]
theorem U3:(C1 row sides).Sublist row:=zAM
inductive OT(K:PySem.W.Frag)(vs:List V)(H:Hp)(Q:VK)(E:XK):Prop|mk(a:Addr)(xs:List V)(ts:List Tr)(_:vs=[.ref a])(_:SqL K H a xs)(_:A0J H xs ts)(_:sz ts<=900)(_:∀(r:Addr)(ys:List V)(H':Hp),A0B H H'->H' r=some (.lst ys)->A0J H' ys (CL ts)->Q (.ref r) H')
section
def V6:=Au UB ["layer"] 1
theorem ar:(["sentence","part"]:List Str).Nodup:=by decide +kernel
theorem LM(de:%[|5]):%[|8] "parts_of" BC 1 (OT K):=by
 refine de.h36.ok V6 ?_;rintro bz f dm A outer s H _ Q E hr ⟨a,xs,ts,rfl,hS,hp,hsz,q⟩
 refine#[_,Ak (UR (Sh (N:=["sentence","part"]) (js:=[none,none]) (cl:=[]) #[rfl,rfl,rfl,zBU _,rfl,rfl,rfl] (AT (pv 0)) (λ_=>Ke (i:=0) ar rfl (Or.inl rfl))
  (λ_=>CS (AM ER %[|50] Ae)) (λ_=>Y0 (Ht YW (pv 0) (JI Ad) JO)) (λ_=>Ke (i:=1) ar rfl (Or.inl rfl)) (λ_=>Bk) (λ_=>pv 1))),?_]
 refine#[#[_,hS],λcc acc dq=>A0 (K:=K) (a:=a) (xs:=xs) (λi σ H2=>Fb λ(v0 v1:Option V)(ys:List V)=>Im (σ=[v0,v1]) (A0B H H2) (H2 acc=some (.lst ys)) (A0J H2 ys (CL (ts.take i)))) ?_ ?_ ?_ ?_]
 ·exact#[none,none,[],rfl,Ab dq _,A0A,.nil]
 ·rintro i σ H2 _ ⟨v0,v1,ys,rfl,s2,_,_⟩;exact s2.seq hS
 ·rintro i x σ H2 hx ⟨v0,v1,ys,rfl,s2,dL,fK⟩;obtain⟨t,ht,dN⟩:=B5 hp hx;have hat2:=dN.keep (TS.same s2);obtain⟨p,z,cs,rfl,iE,hk⟩:=Yx hat2
  have zstr:∃y,z=.str y:=by
   rcases hk with⟨e,_⟩|⟨_,e,_⟩
   ·exact#[_,e]
   ·exact e
  obtain⟨y,rfl⟩:=zstr;refine#[SqT.of iE,Ac (j:=0) rfl,rfl,?_];rcases hk with⟨e,ek⟩|⟨ne,_,hcs,_,_⟩
  ·refine Tj e ?_;refine#[_,_,ys,rfl,s2,dL,?_];rw[Ge ht,ek,zA6];exact fK
  ·refine UW ne ?_;refine#[_,rfl,p,_,rfl,SqT.of iE,Sq,λc hc=>#[#[_,SqT.of A0A],V5 (K:=K) (a:=c) (xs:=GG (V.str y::cs) (some 1) none) (λj σ H3=>Cd λ(v1:Option V)(ys:List V)=>Zw (σ=[some (.ref p),v1]) (A0B H H3) (H3 acc=some (.lst ys)) (H3 c=some (.tup (GG (V.str y::cs) (some 1) none))) (A0J H3 cs (MN t)) (A0J H3 ys (CL (ts.take i)++(MN t).take j))) ?_ ?_ ?_ ?_]]
   ·refine#[_,ys,rfl,s2.trans (Ab hc _),(Ab hc _) _ _ dL,A0A,hcs.keep (TS.new hc),?_];rw[List.take_zero,zA6];exact fK.keep (TS.new hc)
   ·rintro j σ H3 _ ⟨v1,ys,rfl,s3,_,hc3,_⟩;exact SqT.of hc3
   ·rintro j u σ H3 hu ⟨v1,ys,rfl,s3,gE,hc3,hcs3,hp3⟩;rw[aH]at hu;obtain⟨t2,ht2,i7⟩:=B5 hcs3 hu;have dj:=hp3.len;have hb:=KP (j:=j) ht;refine AD ?_;refine#[ys,gE,An %[|0],?_];have k3:TS H3 (upd H3 acc (.lst (ys++[u]))):=TS.lst gE;refine#[_,ys++[u],rfl,Ao s3 dq _,A0A,by rw[Af (AV hc3 gE %[|11])];exact hc3,hcs3.keep k3,?_];rw[zAQ,ht2,<-zB2];exact (hp3.keep k3).snoc (i7.keep k3)
   ·rintro σ H3 ⟨v1,ys,rfl,s3,gE,hc3,hcs3,hp3⟩;refine#[_,_,ys,rfl,s3,gE,?_];rw[aH]at hp3;have hl:=hcs3.len;rw[hl,zAP]at hp3;rw[Ge ht];exact hp3
 ·rintro σ H2 ⟨v0,v1,ys,rfl,s2,dL,fK⟩;rw[hp.len,zAP]at fK;exact q acc ys H2 s2 dL fK
end
inductive P2(vs:List V)(H:Hp)(Q:VK)(E:XK):Prop|mk(k:Nat)(w:Int)(_:vs=[.int (k:Int),.int w])(_:Q (.bl (D2 k w)) H)
theorem WS(k:Nat)(w:Int):decide (V.int (Builtin.bitAnd (w / 2^((k:Int)).toNat) 1)=V.int 1)=D2 k w:=by
 rw[bitAnd_m1,zBG];exact M3 k w
section
def Vq:=Au UN ["letter","world"] 2
theorem LW(de:%[|5]):%[|8] "letter_holds" BC 1 P2:=by
 refine de.h28.ok Vq ?_;rintro bz f dm A outer s H _ Q E hr ⟨k,wd,rfl,q⟩;refine#[_,AX (BF AH (Ap Y3 (Ap X8 (pv 1) (pv 0)) Ad) Ad (Cl _)),?_];refine#[Int.natCast_nonneg k,rfl,?_];rw[<-WS]at q;exact q
end
inductive Ld(vs:List V)(H:Hp)(Q:VK)(E:XK):Prop|mk(j:Nat)(a b:Bool)(_:vs=[.str (jn j),.bl a,.bl b])(_:Q (.bl (jv j a b)) H)
def post:Tr->List Tr
 |.lt k=>[.lt k]
 |.nt t=>post t++[.nt t]
 |.bn j a b=>post a++(post b++[.bn j a b])
theorem UP:∀t:Tr,post t=(MN t).flatMap post++[t]
 |.lt k=>rfl
 |.nt t=>by show post t++[.nt t]=(post t++[])++[.nt t];rw[zA6]
 |.bn j a b=>by show post a++(post b++[.bn j a b])=(post a++(post b++[]))++[.bn j a b];rw[zA6,zB2]
theorem Dj:∀t:Tr,(post t).length=t.size
 |.lt k=>rfl
 |.nt t=>by show (post t++[Tr.nt t]).length=t.size+1;rw[zA,Dj t];rfl
 |.bn j a b=>by
  show (post a++(post b++[Tr.bn j a b])).length=a.size+b.size+1;rw[zA,zA,Dj a,Dj b];show a.size+(b.size+1)=_;omega
def stp(w:Int)(rs:List Bool):Tr->Option (List Bool)
 |.lt k=>some (D2 k w::rs)
 |.nt _=>match rs with
  |a::r=>some ((!a)::r)
  |[]=>none
 |.bn j _ _=>match rs with
  |b::a::r=>some (jv j a b::r)
  |_=>none
def run(w:Int):List Tr->List Bool->Option (List Bool)
 |[],rs=>some rs
 |u::r,rs=>match stp w rs u with
  |some jr=>run w r jr
  |none=>none
theorem GX(w:Int):∀(a b:List Tr)(rs jr:List Bool),run w a rs=some jr->run w (a++b) rs=run w b jr
 |[],b,rs,jr,h=>by cases h;rfl
 |u::r,b,rs,jr,h=>by
  unfold run at h;show (match stp w rs u with|some jr=>run w (r++b) jr|none=>none)=run w b jr
  cases e:stp w rs u with
  |none=>rw[e]at h;cases h
  |some z=>rw[e]at h;exact GX w r b z jr h
theorem Fu(w:Int):∀(t:Tr)(rs:List Bool),run w (post t) rs=some (tv t w::rs)
 |.lt k,rs=>rfl
 |.nt t,rs=>by
  show run w (post t++[.nt t]) rs=_;rw[GX w _ _ _ _ (Fu w t rs)];rfl
 |.bn j a b,rs=>by
  show run w (post a++(post b++[.bn j a b])) rs=_;rw[GX w _ _ _ _ (Fu w a rs),GX w _ _ _ _ (Fu w b _)];rfl
inductive O7(vs:List V)(H:Hp)(Q:VK)(E:XK):Prop|mk(v:V)(t:Tr)(_:vs=[v])(_:t.At H v)(_:t.size<=800)(_:∀(l:Addr)(ys:List V)(H':Hp),A0B H H'->H l=none->H' l=some (.lst ys)->A0J H' ys (post t)->Q (.ref l) H')
inductive LB(vs:List V)(H:Hp)(Q:VK)(E:XK):Prop|mk(l:Addr)(ys:List V)(t:Tr)(w:Int)(_:vs=[.ref l,.int w])(_:H l=some (.lst ys))(_:A0J H ys (post t))(_:t.ok 5)(_:t.size<=800)(_:∀(H':Hp),A0B H H'->Q (.bl (tv t w)) H')
section
def U8:=Au Os ["kind","one","other"] 3
theorem Q4(de:%[|5]):%[|8] "joined" BC 1 Ld:=by
 refine de.h40.ok U8 ?_;rintro bz f dm A outer s H _ Q E hr ⟨j,va,vb,rfl,q2⟩
 refine#[_,Aa (Aq (AM AH (pv 0) Ae)
   (AX (MO (pv 1) (DD (pv 2))))
   Ah)
  (Aa (Aq (AM AH (pv 0) Ae)
   (AX (IA (pv 1) (DD (pv 2))))
   Ah)
  (Aa (Aq (AM AH (pv 0) Ae)
   (AX (IA (HL (pv 1)) (DD (pv 2))))
   Ah)
  (AX (BF AH (pv 1) (pv 2) (Cl _))))),?_]
 refine#[rfl,?_];by_cases h0:V.str (jn j)=V.str "and"
 ·refine BL h0 ?_;obtain rfl:=cy h0
  cases va with
  |false=>exact Aw q2
  |true=>exact AD q2
 refine Bz h0 ?_;refine#[rfl,?_];by_cases h1:V.str (jn j)=V.str "or"
 ·refine BL h1 ?_;obtain rfl:=cx h1
  cases va with
  |false=>exact Aw q2
  |true=>exact AD q2
 refine Bz h1 ?_;refine#[rfl,?_];by_cases h2:V.str (jn j)=V.str "if"
 ·refine BL h2 ?_;obtain rfl:=cr h2
  cases va with
  |false=>exact AD q2
  |true=>exact Aw q2
 refine Bz h2 ?_;rw[cv h0 h1 h2]at q2;refine#[rfl,?_];rw[OI];exact q2
inductive aY(H:Hp)(v:V)(t:Tr)(sl:Addr)(wl:Addr)(m:Nat)(σ:L2.St)(H3:Hp):Prop|mk(ys zs:List V)(ss ws:List Tr)(pp:Option V)(_:σ=[some v,some (.ref sl),some (.ref wl),pp])(_:A0B H H3)(_:H3 sl=some (.lst ys))(_:H3 wl=some (.lst zs))(_:A0J H3 ys ss)(_:A0J H3 zs ws)(_:ws.flatMap post++ss.reverse=post t)(_:m=sz ws)
def A2F:=Au So ["sentence","steps","waiting","step"] 1
theorem KI{H:Hp}:∀{xs:List V}{ts:List Tr},A0J H xs ts->A0J H xs.reverse ts.reverse
 |_,_,.nil=>.nil
 |_,_,.cons r q=>by
  rw[zCZ,zCZ];exact (KI q).snoc r
theorem KK{H:Hp}:∀{xs ys:List V}{ts us:List Tr},A0J H xs ts->A0J H ys us->A0J H (xs++ys) (ts++us)
 |_,_,_,_,.nil,q=>q
 |_,_,_,_,.cons r q,q2=>.cons r (KK q q2)
theorem Su(de:%[|5]):%[|8] "steps_of" BC 2 O7:=by
 refine de.h39.ok A2F ?_;rintro bz f dm A outer s H _ Q E hr ⟨v,t,rfl,ha,hs,q⟩
 refine#[_,Aa (AC 1 A2F.nd (Av Bi))
  (Aa (AC 2 A2F.nd (Av (AI (pv 0))))
  (Aa (Ei zAR (B6 (pv 2) (λ_=>rfl))
   (Aa (AC 3 A2F.nd (Cn (pv 2)))
   (Aa (As (A7 (pv 1) (AI (pv 3))))
   (Ak (As (Eh zBL zCU zCV FR (pv 2) (AI (Ax (LM de) hr Al (AI (Av (AI (pv 3))))))))))))
  (Aa (As (Ui zBL PySem.F.slot_list_reverse PySem.F.type_list_reverse M7 (pv 1)))
  (AX (pv 1))))),?_]
 refine#[GD,λsl d3=>?_];have s1:=Ab d3 %[|9];refine#[OP,λwl fM=>?_];have s2:=Ab fM (.lst [v]);have nsw:sl≠wl:=Ai (A0A (H:=H) (a:=sl) (o:=.lst [])) fM;have jQ:H wl=none:=s1.free fM;have e1:sz [t]=t.size:=by unfold sz;simp
 refine#[aY H v t sl wl,#[_,[],[v],[],[t],none,rfl,s1.trans s2,s2 _ _ A0A,A0A,.nil,.cons (ha.keep ((TS.same s1).trans (TS.same s2))) .nil,by simp,rfl],?_];rintro m σ H3 ⟨ys,zs,ss,ws,pp,rfl,s3,hs3,hw3,p3,z3,e3,rfl⟩
 have bnd:sz ws+ss.length<=800:=by
  have h1:(ws.flatMap post).length=sz ws:=by
   clear e3 z3
   induction ws with
   |nil=>rfl
   |cons u r ih=>
    show (post u++r.flatMap post).length=_;rw[zA,Dj,ih,JL]
  have h2:=congrArg List.length e3;rw[zA,List.length_reverse,h1,Dj]at h2;omega
 refine#[_,.inl #[zs,SqL.of hw3,rfl],?_];exists 12
 ·refine#[λσ' H'=>∃m',m'<sz ws/\aY H v t sl wl m' σ' H',λ_ _ h=>h,?_]
  have fS:0<ws.length:=by
   rw[<-z3.len]
   cases zs with
   |nil=>exact absurd c %[|2]
   |cons _ _=>exact zBH _
  obtain⟨iF,y,ws',u,rfl,rfl,q3,a3⟩:=z3.last fS;have kn:=Cq ws' u;have hku:=To u;have hwl':=JG ws';have eC:=p3.len;have dG:=q3.len;refine#[.inl #[rfl,_,SqL.of hw3],hw3,CD _ _,?_];have t4:HT2.TS H3 (upd H3 wl (.lst (iF++[y]).dropLast)):=TS.lst hw3;have s4:A0B H (upd H3 wl (.lst (iF++[y]).dropLast)):=Ao s3 jQ _;rw[zAY]at t4 s4;have hs4:(upd H3 wl (.lst iF)) sl=some (.lst ys):=by rw[Af nsw];exact hs3
  rw[zAY];refine#[.inl #[rfl,_,SqL.of hs4],hs4,An %[|0],?_];have t5:HT2.TS (upd H3 wl (.lst iF)) %[|99]:=TS.lst hs4;have s5:A0B H %[|99]:=Ao s4 d3 _;have hw5:%[|99] wl=some (.lst iF):=by rw[Af nsw.symm,A0A]
  have hs5:%[|99] sl=some (.lst (ys++[y])):=A0A;have a5:=a3.keep (t4.trans t5);have p5:=(p3.snoc a3).keep (t4.trans t5);have q5:=q3.keep (t4.trans t5)
  revert s5 hw5 hs5 a5 p5 q5
  generalize %[|99]=H5;intro s5 hw5 hs5 a5 p5 q5;refine#[.inl #[rfl,_,SqL.of hw5],OP,λpl dE=>?_];have s6:=Ab dE (.lst [y]);have e1:sz [u]=u.size:=by unfold sz;simp
  refine#[pl,[y],[u],rfl,SqL.of A0A,.cons (a5.keep (TS.same s6)) .nil,by omega,λr ks H7 s7 hr7 p7=>?_];have hl3:=p7.len;rw[Mv]at p7 hl3;have jm:=JG (MN u);have hw7:=s7 _ _ (s6 _ _ hw5);refine#[wl,r,iF,ks,rfl,rfl,hw7,hr7,Dv %[|0],?_];have t8:HT2.TS H7 (upd H7 wl (.lst (iF++ks))):=TS.lst hw7;have k57:=(TS.same s6).trans (TS.same s7);refine#[_,?_,ys++[y],iF++ks,ss++[u],ws'++MN u,_,rfl,Ao (s5.trans (s6.trans s7)) jQ _,?_,A0A,p5.keep (k57.trans t8),(KK (q5.keep k57) p7).keep t8,?_,rfl]
  ·rw[SU];omega
  ·rw[Af nsw];exact s7 _ _ (s6 _ _ hs5)
  ·rw[<-e3,List.flatMap_append,List.flatMap_append,List.reverse_append];show ((ws'.flatMap post++(MN u).flatMap post)++([u]++ss.reverse))=(ws'.flatMap post++(post u++[]))++ss.reverse;rw[zA6,UP u];simp only[zB2]
 ·have e:ws=[]:=by
   cases z3 with
   |nil=>rfl
   |cons h1 h2=>exact absurd rfl c
  subst e;refine#[.inl #[rfl,_,SqL.of hs3],sl,ys,rfl,rfl,hs3,?_];refine q sl ys.reverse _ (Ao s3 d3 _) d3 A0A ?_;have e4:ss.reverse=post t:=e3;rw[<-e4];exact (KI p3).keep (TS.lst hs3)
def A1U:=Au O2 ["steps","world","truths","step","other","one"] 2
def tl(rs:List Bool):List V:=rs.reverse.map V.bl
theorem EB(b:Bool)(rs:List Bool):tl (b::rs)=tl rs++[.bl b]:=by unfold tl;simp
theorem MU(rs:List Bool):(tl rs).length=rs.length:=by unfold tl;simp
theorem Rm(de:%[|5]):%[|8] "true_by" BC 2 LB:=by
 refine de.h41.ok A1U ?_;rintro bz f dm A outer s H _ Q E hr ⟨l,ys,t,wd,rfl,hl,hp,hok,hsz,q⟩
 refine#[_,Aa (AC 2 A1U.nd (Av Bi))
  (Aa (BB zAR rfl (AT (pv 0)) (Bo 3 A1U.nd)
   (Ak (Aq (AM AH %[|57] Ae)
    (Ak (As (A7 (pv 2) (AI (Ax (LW de) hr Al (AN %[|57] (pv 1)))))))
    (Ak (Aq (AM AH %[|57] Ae)
     (Ak (As (A7 (pv 2) (AI (HL (Cn (pv 2)))))))
     (Aa (AC 4 A1U.nd (Cn (pv 2)))
     (Aa (AC 5 A1U.nd (Cn (pv 2)))
     (Ak (As (A7 (pv 2) (AI (Ax (Q4 de) hr Al (Ag %[|57] (AN (pv 5) (pv 4)))))))))))))))
  (AX (Am Ay (pv 2) Ad))),?_]
 refine#[GD,λtr htr=>?_];have s1:=Ab htr %[|9];have dj:=hp.len;have dE:=Dj t;refine#[#[_,SqL.of (s1 _ _ hl)],A0 (K:=K) (a:=l) (xs:=ys) (λi σ H3=>TN λ(v0 v1 v2:Option V)(rs:List Bool)=>Il (σ=[some (.ref l),some (.int wd),some (.ref tr),v0,v1,v2]) (A0B H H3) (H3 tr=some (.lst (tl rs))) (rs.length<=i) (run wd ((post t).drop i) rs=some [tv t wd])) ?_ ?_ ?_ ?_]
 ·exact#[_,_,_,[],rfl,s1,A0A,zAA _,Fu wd t []]
 ·rintro i σ H3 _ ⟨v0,v1,v2,rs,rfl,s3,_⟩;exact SqL.of (s3 _ _ hl)
 ·rintro i x σ H3 hx ⟨v0,v1,v2,rs,rfl,s3,h3,hlr,hrun⟩;obtain⟨u,hu,dN⟩:=B5 hp hx;have i7:=dN.keep (TS.same s3);have hi:i<ys.length:=%[hx|117].1;obtain⟨hi2,eu⟩:=List.getElem?_eq_some_iff.mp hu;rw[List.drop_eq_getElem_cons hi2,eu]at hrun;unfold run at hrun
  cases u with
  |lt k=>
   obtain⟨p,rfl,iE⟩:=i7;refine#[SqT.of iE,Ac (j:=0) rfl,rfl,?_];refine BL rfl ?_;refine#[.inl #[rfl,_,SqL.of h3],SqT.of iE,Ac (j:=1) rfl,k,wd,rfl,?_];refine#[h3,An (by rw[MU];omega),?_];refine#[_,_,_,D2 k wd::rs,rfl,Ao s3 htr _,?_,by show rs.length+1<=i+1;omega,hrun];rw[A0A,EB]
  |nt u=>
   obtain⟨p,c,rfl,iE,_⟩:=i7;refine#[SqT.of iE,Ac (j:=0) rfl,rfl,?_];refine Bz %[|2] ?_;refine#[SqT.of iE,Ac (j:=0) rfl,rfl,?_];refine BL rfl ?_
   cases rs with
   |nil=>cases hrun
   |cons a r=>
    rw[EB]at h3;have hlr':r.length+1<=i:=hlr;refine#[.inl #[rfl,_,SqL.of h3],.inl #[rfl,_,SqL.of h3],h3,CD _ _,?_];refine#[A0A,?_,?_]
    ·rw[zAY];exact An (by rw[MU];omega)
    refine#[_,_,_,(!a)::r,rfl,Ao (Ao s3 htr _) htr _,?_,by show r.length+1<=i+1;omega,hrun];rw[A0A,EB,zAY]
  |bn j u1 u2=>
   obtain⟨p,c1,c2,rfl,iE,_⟩:=i7;refine#[SqT.of iE,Ac (j:=0) rfl,rfl,?_];refine Bz FU ?_;refine#[SqT.of iE,Ac (j:=0) rfl,rfl,?_];refine Bz JP ?_
   match rs,hrun,h3,hlr with
   |[],hrun,_,_=>cases hrun
   |[_],hrun,_,_=>cases hrun
   |b::a::r,hrun,h3,hlr=>
    rw[EB,EB]at h3;have hlr':r.length+1+1<=i:=hlr;refine#[.inl #[rfl,_,SqL.of h3],h3,CD _ _,?_];have h4:(upd H3 tr (.lst ((tl r++[V.bl a])++[V.bl b]).dropLast)) tr=some (.lst (tl r++[V.bl a])):=by rw[A0A,zAY]
    have s4:A0B H (upd H3 tr (.lst ((tl r++[V.bl a])++[V.bl b]).dropLast)):=Ao s3 htr _;have p4:(upd H3 tr (.lst ((tl r++[V.bl a])++[V.bl b]).dropLast)) p=some (.tup [.str (jn j),c1,c2]):=by rw[Af (AV iE h3 %[|11])];exact iE
    revert h4 s4 p4
    generalize upd H3 tr (.lst ((tl r++[V.bl a])++[V.bl b]).dropLast)=H4;intro h4 s4 p4;refine#[.inl #[rfl,_,SqL.of h4],h4,CD _ _,?_];have h5:(upd H4 tr (.lst (tl r++[V.bl a]).dropLast)) tr=some (.lst (tl r)):=by rw[A0A,zAY]
    have s5:A0B H (upd H4 tr (.lst (tl r++[V.bl a]).dropLast)):=Ao s4 htr _;have p5:(upd H4 tr (.lst (tl r++[V.bl a]).dropLast)) p=some (.tup [.str (jn j),c1,c2]):=by rw[Af (AV p4 h4 %[|11])];exact p4
    revert h5 s5 p5
    generalize upd H4 tr (.lst (tl r++[V.bl a]).dropLast)=H5;intro h5 s5 p5;refine#[.inl #[rfl,_,SqL.of h5],SqT.of p5,Ac (j:=0) rfl,j,a,b,rfl,?_];refine#[h5,An (by rw[MU];omega),?_];refine#[_,_,_,jv j a b::r,rfl,Ao s5 htr _,?_,by show r.length+1<=i+1;omega,hrun];rw[A0A,EB]
 ·rintro σ H3 ⟨v0,v1,v2,rs,rfl,s3,h3,hlr,hrun⟩;rw[dj,List.drop_length]at hrun;cases hrun;exact#[SqL.of h3,Ac (j:=0) rfl,q _ s3]
end
inductive Gh(K:PySem.W.Frag)(vs:List V)(H:Hp)(Q:VK)(E:XK):Prop|mk(v:V)(t:Tr)(r:Addr)(row:List Int)(_:vs=[v,.ref r])(_:t.At H v)(_:t.ok 5)(_:t.size<=800)(_:%[|70])(_:Wr row)(_:∀(l:Addr)(H':Hp),A0B H H'->H l=none->AK H' l (row.filter λk=>tv t k == true)->Q (.ref l) H')
section
def A2K:=Au JC ["sentence","room","steps"] 2
theorem CI(de:%[|5]):%[|8] "worlds_of" BC 3 (Gh K):=by
 refine de.h42.ok A2K ?_;rintro bz f dm A outer s H _ Q E hr ⟨v,t,r,row,rfl,ha,hok,hs,hS,hwr,q⟩;have hl:=hwr.len
 refine#[_,Aa (AC 2 A2K.nd (Ax (Su de) hr Al (AI (pv 0))))
  (AX (A8 (N:=["world","steps"]) (js:=[none,some 2]) (cl:=[("steps",s.heap.objs.size+1)]) #[rfl,rfl,rfl,(by intro p hp;simp at hp;rcases hp with rfl<;>rfl),rfl,rfl,rfl] (AT (pv 1)) (λc1=>(Bo 0 (show (["world","steps"]:List Str).Nodup by decide +kernel))) (λc1=>(CS (Bv (Ax (Rm de) hr Al (AN (pv 1) (pv 0)))))) (λc1=>(pv 0)))),?_]
 refine#[v,t,rfl,ha,hs,λst ys H1 s1 hst0 eG hp=>?_];refine#[#[_,s1.seq hS],λcc acc dq=>BO (p:=λk=>tv t k == true) (rest:=[some (.ref st)]) (s1.seq hS) dq %[|0] (λk hk H2 s2 R hR=>?_) (λv0 H2 s2 h2=>q acc H2 (s1.trans s2) (s1.free dq) h2) none];refine#[st,ys,t,k,rfl,s2 _ _ eG,hp.keep (TS.same s2),hok,hs,λH3 s3=>?_];have:=hR H3 s3;rw[show (tv t k == true)=tv t k by cases tv t k<;>rfl]at this;exact this
end
section
def YR:=Au XL ["many"] 1
theorem Vm(de:%[|5]):%[|8] "all_worlds" BC 1 Hv:=by
 refine de.h93.ok YR ?_;rintro bz f dm A outer s H _ Q E hr ⟨m,rfl,h1,h5,q⟩;refine#[_,AX (AJ (HG rfl) %[|10] de.T.lst Bh (AI (AJ Gf %[|10] de.T.rng boot_range (AI (Ap XZ Ad (pv 0)))))),?_];have e:(1:Int)*2^((m:Int)).toNat=((2^m:Nat):Int):=by rw[Int.one_mul,zBG,Int.natCast_pow];rfl
 refine#[#[by omega,by omega,by decide],_,rfl,λr fu=>?_];have s2:=Ab fu (.rng 0 ((1:Int)*2^((m:Int)).toNat));refine#[r,2^m,rfl,(by rw[A0A];show some (HO.rng 0 ((1:Int)*2^((m:Int)).toNat))=_;rw[e]),zAC (M5 h5) %[|2],λl2 dG=>?_];have s3:=Ab dG (.lst ((Dw (2^m)).map V.int));exact q l2 _ (s2.trans s3) (s2.free dG) A0A
end
inductive Uc(K:PySem.W.Frag)(vs:List V)(H:Hp)(Q:VK)(E:XK):Prop|mk(a b:Addr)(one dk:List Int)(_:vs=[.ref a,.ref b])(_:SqL K H a (one.map V.int))(_:SqL K H b (dk.map V.int))(_:one.length<64)(_:dk.length<=900)(_:∀(l:Addr)(H':Hp)(ns:List Int),A0B H H'->H l=none->ns.Pairwise (· < ·)->(∀k,k∈ns↔k∈one/\k∈dk)->AK H' l ns->Q (.ref l) H')
section
def YU:=Au Xv ["one","other"] 2
theorem Ow(de:%[|5]):%[|8] "in_both" BC 1 (Uc K):=by
 refine de.h57.ok YU ?_;rintro bz f dm A outer s H _ Q E hr ⟨a,b,one,dk,rfl,ha,hb,eC,dG,q⟩;refine#[_,AX (AQ (DK rfl) %[|10] de.T.sorted boot_sorted (AI (Ap Wt (AJ (Eo rfl) %[|10] de.T.set boot_set (AI (pv 0))) (AJ (Eo rfl) %[|10] de.T.set boot_set (AI (pv 1)))))),?_];refine#[a,one,rfl,ha,by omega,λa1 iC=>?_];have s1:=Ab iC (BE w a1 (λk=>decide (k∈one)) one.length);refine#[b,dk,rfl,s1.seq hb,by omega,λb1 eO=>?_];have s2:=Ab eO (BE w b1 (λk=>decide (k∈dk)) dk.length);refine#[a1,b1,_,_,_,_,rfl,rfl,s2 _ _ A0A,A0A,λe=>?_,by omega,λr fJ=>?_]
 ·subst e;rw[A0A]at eO;cases eO
 have s3:=Ab fJ (BE w r (λk=>decide (k∈one) && decide (k∈dk)) one.length);refine#[r,_,_,rfl,A0A,eC,λl ns hl hp hm=>?_];have s4:=Ab hl (.lst %[|28]);exact q l _ ns (s1.trans (s2.trans (s3.trans s4))) ((s1.trans (s2.trans s3)).free hl) hp (λk=>by rw[hm k,zAX,decide_eq_true_eq,decide_eq_true_eq]) A0A
end
inductive P1(K:PySem.W.Frag)(vs:List V)(H:Hp)(Q:VK)(E:XK):Prop|mk(a b:Addr)(one dk:List Int)(_:vs=[.ref a,.ref b])(_:SqL K H a (one.map V.int))(_:SqL K H b (dk.map V.int))(_:one.length<=32)(_:(∀k∈one,0<=k/\k<32))(_:dk.length<=900)(_:∀(l:Addr)(H':Hp)(ns:List Int),A0B H H'->H l=none->ns.Pairwise (· < ·)->(∀k,k∈ns↔k∈one/\k∉dk)->AK H' l ns->Q (.ref l) H')
section
def Wi:=Au SR ["one","other"] 2
theorem Hl(de:%[|5]):%[|8] "in_first_only" BC 1 (P1 K):=by
 refine de.h43.ok Wi ?_;rintro bz f dm A outer s H _ Q E hr ⟨a,b,one,dk,rfl,ha,hb,eC,h32,dG,q⟩;refine#[_,AX (AQ (Kv rfl) %[|10] de.T.sorted boot_sorted (AI (Ap Vn (AJ (Eo rfl) %[|10] de.T.set boot_set (AI (pv 0))) (AJ (Eo rfl) %[|10] de.T.set boot_set (AI (pv 1)))))),?_];refine#[a,one,rfl,ha,by omega,λa1 iC=>?_];have s1:=Ab iC (BE w a1 (λk=>decide (k∈one)) one.length);refine#[b,dk,rfl,s1.seq hb,by omega,λb1 eO=>?_];have s2:=Ab eO (BE w b1 (λk=>decide (k∈dk)) dk.length);refine#[a1,b1,_,_,_,_,rfl,rfl,s2 _ _ A0A,A0A,λe=>?_,eC,by omega,λk hk=>h32 k (of_decide_eq_true hk),λr fJ=>?_]
 ·subst e;rw[A0A]at eO;cases eO
 have s3:=Ab fJ (QU w r (λk=>decide (k∈one) && !decide (k∈dk)) one.length);refine#[r,_,_,rfl,A0A,by omega,λl ns hl hp hm=>?_];have s4:=Ab hl (.lst %[|28]);exact q l _ ns (s1.trans (s2.trans (s3.trans s4))) ((s1.trans (s2.trans s3)).free hl) hp (λk=>by rw[hm k,zAX,decide_eq_true_eq,Bool.not_eq_true',decide_eq_false_iff_not]) A0A
end
inductive OA(K:PySem.W.Frag)(vs:List V)(H:Hp)(Q:VK)(E:XK):Prop|mk(a b:Addr)(one dk:List Int)(_:vs=[.ref a,.ref b])(_:SqL K H a (one.map V.int))(_:SqL K H b (dk.map V.int))(_:one.length<64)(_:dk.length<=900)(_:∀(H':Hp),A0B H H'->Q (.bl (one.any λk=>decide (k∈dk))) H')
section
def WE:=Au R0 ["one","other"] 2
theorem Hf(de:%[|5]):%[|8] "some_within" BC 2 (OA K):=by
 refine de.h58.ok WE ?_;rintro bz f dm A outer s H _ Q E hr ⟨a,b,one,dk,rfl,ha,hb,eC,dG,q⟩;refine#[_,AX (BF IC (%[|67] (AI (Ax (Ow de) hr Al (AN (pv 0) (pv 1))))) Ad (Cl _)),?_];refine#[a,b,one,dk,rfl,ha,hb,eC,dG,λl H' ns s1 hl hp hm fJ=>?_];refine#[.inl (SqL.of fJ),?_]
 have e:decide (((%[|28].length:Nat):Int)>0)=one.any λk=>decide (k∈dk):=by
  rw[List.length_map]
  cases h:one.any λk=>decide (k∈dk)with
  |true=>
   obtain⟨k,h1,h2⟩:=List.any_eq_true.mp h;have:=zC4 ((hm k).mpr #[h1,of_decide_eq_true h2]);exact decide_eq_true %[|0]
  |false=>
   cases ns with
   |nil=>rfl
   |cons k ns=>
    obtain⟨h1,h2⟩:=(hm k).mp List.mem_cons_self;rw[List.any_eq_false]at h;exact absurd (decide_eq_true h2) (h k h1)
 have:=q H' s1;rw[<-e]at this;exact this
end
def E2(rs:%[|25]):Nat:=(rs.map List.length).sum
inductive RY(K:PySem.W.Frag)(vs:List V)(H:Hp)(Q:VK)(E:XK):Prop|mk(a:Addr)(xs:List V)(rs:%[|25])(_:vs=[.ref a])(_:SqL K H a xs)(_:A0F H xs rs)(_:E2 rs<64)(_:∀(l:Addr)(H':Hp)(ns:List Int),A0B H H'->H l=none->ns.Pairwise (· < ·)->(∀k,k∈ns↔∃row∈rs,k∈row)->AK H' l ns->Q (.ref l) H')
theorem bd(h:tb D σ H):Du MB tb D σ H:=AD h
theorem Q7{rs:%[|25]}{i:Nat}{row:List Int}(h:rs[i]? = some row):E2 (rs.take (i+1))=E2 (rs.take i)+row.length:=by
 have e:rs.take (i+1)=rs.take i++[row]:=by rw[zAQ,h];rfl
 unfold E2;rw[e,List.map_append,zCR];simp
theorem Vl:E2 (rs.take i)<=E2 rs:=by
 have e:=zC i rs
 have:E2 rs=E2 (rs.take i)+E2 (rs.drop i):=by
  conv=>lhs;rw[<-e]
  unfold E2;rw[List.map_append,zCR]
 omega
section
def af:=Au aI ["rows"] 1
theorem X7(de:%[|5]):%[|8] "in_any" BC 1 (RY K):=by
 refine de.h45.ok af ?_;rintro bz f dm A outer s H _ Q E hr ⟨a,xs,rs,rfl,hS,hR,h64,q⟩;refine#[_,AX (AQ (DK rfl) %[|10] de.T.sorted boot_sorted (AI (Rs (N:=["row","world"]) (js:=[none,none]) (cl:=[]) #[rfl,rfl,rfl,zBU _,rfl,rfl,rfl] (AT (pv 0)) (λc1=>(Bo 0 (show (["row","world"]:List Str).Nodup by decide +kernel))) (λc1=>Bk) (λc1=>(AT (pv 0))) (λc1=>(Bo 1 (show (["row","world"]:List Str).Nodup by decide +kernel))) (λc1=>Bk) (λc1=>(pv 1))))),?_];refine#[#[_,hS],λcc acc dq=>A0 (K:=K) (a:=a) (xs:=xs) (λi σ H2=>TN λ(v0 v1:Option V)(S:Int->Bool)(n:Nat)=>Il (σ=[v0,v1]) (A0B H H2) (H2 acc=some (BE w acc S n)) (∀k,S k=true↔∃row∈rs.take i,k∈row) (n<=E2 (rs.take i))) ?_ ?_ ?_ ?_]
 ·exact#[none,none,_,0,rfl,Ab dq _,A0A,λk=>by simp,zA5 _]
 ·rintro i σ H2 _ ⟨v0,v1,S,n,rfl,s2,_⟩;exact s2.seq hS
 ·rintro i x σ H2 hx ⟨v0,v1,S,n,rfl,s2,dL,dU,iw⟩;obtain⟨row,p,hrow,rfl,hp⟩:=hR.get hx;have dQ:=Q7 hrow;have hle:=Vl (rs:=rs) (i:=i+1);refine bd ?_;refine#[#[_,SqL.of (s2 _ _ hp)],A0 (K:=K) (a:=p) (xs:=row.map V.int) (λj σ H3=>Fb λ(v1:Option V)(S:Int->Bool)(n:Nat)=>Il (σ=[some (.ref p),v1]) (A0B H H3) (H3 acc=some (BE w acc S n)) (∀k,S k=true↔(∃row∈rs.take i,k∈row)\/k∈row.take j) (n<=E2 (rs.take i)+j)) ?_ ?_ ?_ ?_]
  ·exact#[_,S,n,rfl,s2,dL,λk=>by rw[dU k];simp,iw]
  ·rintro j σ H3 _ ⟨v1,S,n,rfl,s3,_⟩;exact SqL.of (s3 _ _ hp)
  ·rintro j u σ H3 hu ⟨v1,S,n,rfl,s3,gE,hm3,hn3⟩;rw[List.getElem?_map]at hu;obtain⟨k0,hk0,rfl⟩:=Option.map_eq_some_iff.mp hu;have hj:=%[hk0|117].1;have et:row.take (j+1)=row.take j++[k0]:=by rw[zAQ,hk0];rfl
   refine AD ?_;refine#[k0,S,n,rfl,gE,by omega,?_];refine#[_,_,n+1,rfl,Ao s3 dq _,A0A,λk=>?_,by omega];rw[zBE,hm3 k,decide_eq_true_eq,et,zDA,zBZ,or_assoc]
  ·rintro σ H3 ⟨v1,S,n,rfl,s3,gE,hm3,hn3⟩;rw[List.length_map]at hm3 hn3;rw[zAP]at hm3;refine#[_,_,S,n,rfl,s3,gE,λk=>?_,by omega];have e:rs.take (i+1)=rs.take i++[row]:=by rw[zAQ,hrow];rfl
   rw[hm3 k,e];constructor
   ·rintro (⟨r,h1,h2⟩|h)
    ·exact#[r,zBM _ h1,h2]
    ·exact#[row,zAE _ List.mem_cons_self,h]
   ·rintro⟨r,h1,h2⟩;rcases List.mem_append.mp h1 with z|z
    ·exact .inl #[r,z,h2]
    ·rw[List.mem_singleton.mp z]at h2;exact .inr h2
 ·rintro σ H2 ⟨v0,v1,S,n,rfl,s2,dL,dU,iw⟩;rw[hR.len,zAP]at dU iw;refine#[acc,S,n,rfl,dL,by omega,λl ns hl hp hm=>?_];have s4:=Ab hl (.lst %[|28]);exact q l _ ns (s2.trans s4) (s2.free hl) hp (λk=>by rw[hm k,dU k]) A0A
end
inductive N9(K:PySem.W.Frag)(vs:List V)(H:Hp)(Q:VK)(E:XK):Prop|mk(a b:Addr)(one dk:List Int)(_:vs=[.ref a,.ref b])(_:SqL K H a (one.map V.int))(_:SqL K H b (dk.map V.int))(_:one.length<=32)(_:(∀k∈one,0<=k/\k<32))(_:dk.length<=900)(_:∀(H':Hp),A0B H H'->Q (.bl (one.all λk=>decide (k∈dk))) H')
inductive LT(K:PySem.W.Frag)(vs:List V)(H:Hp)(Q:VK)(E:XK):Prop|mk(s r:Addr)(seen row:List Int)(_:vs=[.ref s,.ref r])(_:SqL K H s (seen.map V.int))(_:Wr seen)(_:seen≠[])(_:%[|70])(_:Wr row)(_:∀(H':Hp),A0B H H'->Q (.str (Bu seen row)) H')
section
def V4:=Au SZ ["one","other"] 2
theorem Mc(de:%[|5]):%[|8] "all_within" BC 2 (N9 K):=by
 refine de.h56.ok V4 ?_;rintro bz f dm A outer s H _ Q E hr ⟨a,b,one,dk,rfl,ha,hb,eC,h32,dG,q⟩;refine#[_,AX (BF AH (%[|67] (AI (Ax (Hl de) hr Al (AN (pv 0) (pv 1))))) Ad (Cl _)),?_];refine#[a,b,one,dk,rfl,ha,hb,eC,h32,dG,λl H' ns s1 hl hp hm fJ=>?_];refine#[.inl (SqL.of fJ),rfl,?_]
 have e:decide (V.int ((%[|28].length:Nat):Int)=V.int 0)=one.all λk=>decide (k∈dk):=by
  rw[List.length_map]
  cases h:one.all λk=>decide (k∈dk)with
  |true=>
   cases ns with
   |nil=>rfl
   |cons k ns=>
    obtain⟨h1,h2⟩:=(hm k).mp List.mem_cons_self;exact absurd (of_decide_eq_true (List.all_eq_true.mp h k h1)) h2
  |false=>
   obtain⟨k,h1,h2⟩:=List.all_eq_false.mp h;have:=zC4 ((hm k).mpr #[h1,λz=>h2 (decide_eq_true z)])
   exact decide_eq_false λz=>by
    injection z with z
    omega
 have:=q H' s1;rw[<-e]at this;exact this
def Wz:=Au Sr ["seen","worlds"] 2
theorem Fe(de:%[|5]):%[|8] "plain" BC 3 (LT K):=by
 refine de.h59.ok Wz ?_;rintro bz f dm A outer s H _ Q E hr ⟨sn,r,seen,row,rfl,hN,wN,dB,hS,wS,q⟩;have l1:=wN.len;have l2:=wS.len
 refine#[_,Aa (Aq (Bv (Ax (Mc de) hr Al (AN (pv 0) (pv 1))))
   (AX Ae)
   Ah)
  (Aa (Aq (Bv (Ax (Hf de) hr Al (AN (pv 0) (pv 1))))
   (AX Ae)
   Ah)
  (AX Ae)),?_]
 unfold Bu at q;refine#[sn,r,seen,row,rfl,hN,hS,l1,wN.2,by omega,λH1 s1=>?_]
 cases h0:seen.all λk=>decide (k∈row)with
 |true=>
  refine AD ?_;have:=q _ s1;rw[h0,if_pos rfl]at this;exact this
 |false=>
  refine Aw ?_;simp only[h0,if_neg zAG]at q;refine#[sn,r,seen,row,rfl,s1.seq hN,s1.seq hS,by omega,by omega,λH2 s2=>?_];have q2:=q _ (s1.trans s2)
  cases h1:seen.any λk=>decide (k∈row)with
  |true=>
   refine AD ?_;rw[h1,if_pos rfl]at q2;exact q2
  |false=>
   refine Aw ?_;rw[h1,if_neg zAG]at q2;exact q2
end
def Zu:%[|34]->V
 |none=>.non
 |some i=>.int i
def Eb(sides:%[|25])(row:List Int):Option Nat:=sides.findIdx? λs=>!(s.any λk=>decide (k∈row))
theorem A1H:Eb sides row=none↔AO sides row=true:=by
 unfold Eb AO;rw[List.findIdx?_eq_none_iff,zCG];exact#[λh s hs=>by have:=h s hs;simpa using this,λh s hs=>by have:=h s hs;simpa using this]
theorem RT:decide (Zu (Eb sides row)=.non)=AO sides row:=by
 cases h:Eb sides row with
 |none=>
  rw[A1H.mp h];rfl
 |some i=>
  cases h2:AO sides row with
  |true=>rw[A1H.mpr h2]at h;cases h
  |false=>rfl
theorem Wb(hb:∀s∈sides.take i,(s.any λk=>decide (k∈row))=true)(hi:sides[i]? = some s)(hs:(s.any λk=>decide (k∈row))=false):Eb sides row=some i:=by
 unfold Eb;obtain⟨dQ,rfl⟩:=List.getElem?_eq_some_iff.mp hi;rw[List.findIdx?_eq_some_iff_getElem];refine#[dQ,by simp[hs],λj hj=>?_];have hm:sides[j]∈sides.take i:=List.mem_take_iff_getElem.mpr #[j,by omega,rfl];rw[hb _ hm];decide
theorem RQ(hb:∀s∈sides,(s.any λk=>decide (k∈row))=true):Eb sides row=none:=by
 rw[A1H];unfold AO;rw[zCG];exact hb
theorem Qg{α:Type}{xs:List α}{x y:α}(hx:xs[i]? = some x)(h:y∈xs.take (i+1)):y∈xs.take i\/y=x:=by
 rw[List.take_succ,hx]at h;rcases List.mem_append.mp h with h|h
 ·exact .inl h
 ·exact .inr (by simpa using h)
inductive LU(K:PySem.W.Frag)(vs:List V)(H:Hp)(Q:VK)(E:XK):Prop|mk(sd r:Addr)(row:List Int)(xs:List V)(sides:%[|25])(_:vs=[.ref sd,.ref r])(_:%[|70])(_:row.length<=900)(_:H sd=some %[|12])(_:A0F H xs sides)(_:(∀s∈sides,s.length<64))(_:sides.length<=900)(_:∀(H':Hp),A0B H H'->Q (Zu (Eb sides row)) H')
section
def A2J:=Au OQ ["sides","worlds","at","side"] 2
theorem Jm(de:%[|5]):%[|8] "missed_side" BC 3 (LU K):=by
 refine de.h61.ok A2J ?_;rintro bz f dm A outer s H _ Q E hr ⟨sd,r,row,xs,sides,rfl,hS,hl,hX,hR,d3,g9,q⟩
 refine#[_,Aa (BB zAR rfl (Mh %[|10] de.zenumerate (AI (pv 0))) (SE rfl (FA (Bo 2 A2J.nd) (FA (Bo 3 A2J.nd) Pq)))
   (Ak (Aq (Ct (Bv (Ax (Hf de) hr Al (AN (pv 3) (pv 1)))))
    (AX (pv 2))
    Ah)))
  (AX Cm),?_]
 have dj:=hR.len;refine#[sd,_,rfl,hX,Je (a:=sd) (xs:=xs) (λi σ H3=>Cd λ(v0 v1:Option V)=>BV (σ=[some (.ref sd),some (.ref r),v0,v1]) (A0B H H3) (∀s∈sides.take i,(s.any λk=>decide (k∈row))=true)) ?_ ?_ ?_ ?_]
 ·exact#[_,_,rfl,A0B.refl _,λs hs=>by simp at hs]
 ·rintro i σ H3 _ ⟨v0,v1,rfl,s3,h3⟩;exact s3 _ _ hX
 ·rintro i y T2 σ H3 hy eB ⟨v0,v1,rfl,s3,h3⟩;obtain⟨gh,p,fu,rfl,hp⟩:=hR.get hy;have sT:=Ab eB (.tup [.int (i:Nat),.ref p]);have s4:=s3.trans sT;refine#[SqT.of A0A,rfl,rfl,?_];refine#[p,r,gh,row,rfl,SqL.of (s4 _ _ hp),s4.seq hS,d3 gh (zAJ fu),hl,λH4 s5=>?_]
  cases hb:gh.any λk=>decide (k∈row)with
  |true=>
   refine Aw ?_;refine#[_,_,rfl,s4.trans s5,λs hs=>?_];rcases Qg fu hs with h|rfl
   ·exact h3 s h
   ·exact hb
  |false=>
   refine AD ?_;have:=q H4 (s4.trans s5);rw[Wb h3 fu hb]at this;exact this
 ·rintro σ H3 ⟨v0,v1,rfl,s3,h3⟩;rw[dj,zAP]at h3;have:=q H3 s3;rw[RQ h3]at this;exact this
end
inductive IU(K:PySem.W.Frag)(vs:List V)(H:Hp)(Q:VK)(E:XK):Prop|mk(sd r:Addr)(row:List Int)(xs:List V)(sides:%[|25])(_:vs=[.ref sd,.ref r])(_:%[|70])(_:row.length<=900)(_:H sd=some %[|12])(_:A0F H xs sides)(_:(∀s∈sides,s.length<64))(_:sides.length<=900)(_:∀(H':Hp),A0B H H'->Q (.bl (AO sides row)) H')
section
def UH:=Au OM ["sides","worlds"] 2
theorem Qn(de:%[|5]):%[|8] "stands" BC 4 (IU K):=by
 refine de.h86.ok UH ?_;rintro bz f dm A outer s H _ Q E hr ⟨sd,r,row,xs,sides,rfl,hS,hl,hX,hR,d3,g9,q⟩;refine#[_,AX (NY (FV (Ax (Jm de) hr Al (AN (pv 0) (pv 1))))),?_];refine#[sd,r,row,xs,sides,rfl,hS,hl,hX,hR,d3,g9,λH1 s1=>?_];have:=q H1 s1;rw[<-RT]at this;exact this
end
inductive IQ(K:PySem.W.Frag)(vs:List V)(H:Hp)(Q:VK)(E:XK):Prop|mk(sd g s r:Addr)(xs:List V)(sides:%[|25])(going seen row:List Int)(_:vs=[.ref sd,.ref g,.ref s,.ref r])(_:H sd=some %[|12])(_:A0F H xs sides)(_:(∀s∈sides,Wr s))(_:sides.length<=2)(_:SqL K H g (going.map V.int))(_:Wr going)(_:SqL K H s (seen.map V.int))(_:Wr seen)(_:seen≠[])(_:%[|70])(_:Wr row)(_:∀(H':Hp),A0B H H'->Q (.str (CO sides going seen row)) H')
def C5(z:Str)(g r:List Int):List Int:=if z="grant" then N2 g r else if z="deny" then EV g r else g
def Tu(sides:%[|25])(going seen row:List Int):Option Nat:=if Bu seen row="doubt" then none else Eb sides (C5 (Bu seen row) going row)
inductive Jz(K:PySem.W.Frag)(vs:List V)(H:Hp)(Q:VK)(E:XK):Prop|mk(sd g s r:Addr)(xs:List V)(sides:%[|25])(going seen row:List Int)(_:vs=[.ref sd,.ref g,.ref s,.ref r])(_:H sd=some %[|12])(_:A0F H xs sides)(_:(∀s∈sides,Wr s))(_:sides.length<=2)(_:SqL K H g (going.map V.int))(_:Wr going)(_:SqL K H s (seen.map V.int))(_:Wr seen)(_:seen≠[])(_:%[|70])(_:Wr row)(_:∀(H':Hp),A0B H H'->Q (Zu (Tu sides going seen row)) H')
inductive Uz(K:PySem.W.Frag)(vs:List V)(H:Hp)(Q:VK)(E:XK):Prop|mk(z:Str)(g r:Addr)(going row:List Int)(_:vs=[.str z,.ref g,.ref r])(_:SqL K H g (going.map V.int))(_:Wr going)(_:%[|70])(_:row.length<=900)(_:∀(l:Addr)(H':Hp),A0B H H'->H l=none->AK H' l (C5 z going row)->Q (.ref l) H')
theorem X9(hg:Wr g)(hp:ns.Pairwise (· < ·))(hm:∀k,k∈ns↔k∈g/\k∈r):ns=N2 g r:=
 GO hp (hg.1.sublist zAM) λk=>by rw[hm k];unfold N2;rw[List.mem_filter,decide_eq_true_eq]
theorem VI(hg:Wr g)(hp:ns.Pairwise (· < ·))(hm:∀k,k∈ns↔k∈g/\k∉r):ns=EV g r:=
 GO hp (hg.1.sublist zAM) λk=>by rw[hm k];unfold EV;rw[List.mem_filter,Bool.not_eq_true',decide_eq_false_iff_not]
theorem KB(xs row:List Int):EV xs row=[]↔(xs.all λk=>decide (k∈row))=true:=by
 unfold EV;rw[List.filter_eq_nil_iff,zCG];exact#[λh k hk=>by have:=h k hk;simpa using this,λh k hk=>by have:=h k hk;simpa using this]
theorem Zc(seen row:List Int):Bu seen row="grant"\/Bu seen row="deny"\/Bu seen row="doubt":=by
 unfold Bu;split
 ·exact .inl rfl
 ·split
  ·exact .inr (.inr rfl)
  ·exact .inr (.inl rfl)
theorem Vw(z:Str)(g r:List Int):(C5 z g r).length<=g.length:=by
 have h1:=Zh g r;have h2:=V8 g r;unfold C5;split
 ·omega
 ·split<;>omega
theorem G4{going seen row:List Int}(n0:¬EV going row=[])(n1:¬N2 going row=[]):CO sides going seen row=match Tu sides going seen row with|none=>Bu seen row|some _=>"doubt":=by
 unfold CO Tu C5;rw[if_neg n0,if_neg n1];rcases Zc seen row with e|e|e
 ·rw[e,if_neg (show ¬("grant":Str)="doubt" by decide),if_pos (show ("grant":Str)="grant" from rfl)]
  cases hs:AO sides (N2 going row)with
  |true=>
   rw[A1H.mpr hs,if_neg (by rintro⟨_,z⟩;cases z),if_neg (by rintro⟨z,_⟩;exact absurd z %[|2])]
  |false=>
   rw[if_pos #[rfl,rfl]]
   cases hm:Eb sides (N2 going row)with
   |none=>rw[A1H.mp hm]at hs;cases hs
   |some i=>rfl
 ·rw[e,if_neg (show ¬("deny":Str)="doubt" by decide),if_neg (show ¬("deny":Str)="grant" by decide),if_pos (show ("deny":Str)="deny" from rfl)]
  cases hs:AO sides (EV going row)with
  |true=>
   rw[A1H.mpr hs,if_neg (by rintro⟨z,_⟩;exact absurd z %[|2]),if_neg (by rintro⟨_,z⟩;cases z)]
  |false=>
   rw[if_neg (by rintro⟨z,_⟩;exact absurd z %[|2]),if_pos #[rfl,rfl]]
   cases hm:Eb sides (EV going row)with
   |none=>rw[A1H.mp hm]at hs;cases hs
   |some i=>rfl
 ·rw[e,if_neg (by rintro⟨z,_⟩;exact absurd z %[|2]),if_neg (by rintro⟨z,_⟩;exact absurd z %[|2]),if_pos rfl]
section
def TK:=Au Of ["word","row","worlds"] 3
theorem IR(de:%[|5]):%[|8] "left_by" BC 2 (Uz K):=by
 refine de.h60.ok TK ?_;rintro bz f dm A outer s H _ Q E hr ⟨z,gg,r,going,row,rfl,hG,wG,hS,hl,q⟩;have l1:=wG.len
 refine#[_,Aa (Aq (AM AH (pv 0) Ae)
   (AX (Ax (Ow de) hr Al (AN (pv 1) (pv 2))))
   Ah)
  (Aa (Aq (AM AH (pv 0) Ae)
   (AX (Ax (Hl de) hr Al (AN (pv 1) (pv 2))))
   Ah)
  (AX (%[|63] (AI (pv 1))))),?_]
 unfold C5 at q;refine#[rfl,?_];by_cases h0:z="grant"
 ·refine BL (by rw[h0]) ?_;refine#[gg,r,going,row,rfl,hG,hS,by omega,by omega,λl H' ns s1 gK hp hm fJ=>?_];have:=X9 wG hp hm;subst this;have q1:=q l H' s1 gK;rw[if_pos h0]at q1;exact q1 fJ
 refine Bz (λe=>h0 (by injection e)) ?_;refine#[rfl,?_];by_cases h1:z="deny"
 ·refine BL (by rw[h1]) ?_;refine#[gg,r,going,row,rfl,hG,hS,l1,wG.2,by omega,λl H' ns s1 gK hp hm fJ=>?_];have:=VI wG hp hm;subst this;have q1:=q l H' s1 gK;rw[if_neg h0,if_pos h1]at q1;exact q1 fJ
 refine Bz (λe=>h1 (by injection e)) ?_;refine#[.inl hG,λl gK=>?_];have q1:=q l _ (Ab gK (.lst (going.map V.int))) gK;rw[if_neg h0,if_neg h1]at q1;exact q1 A0A
def A2O:=Au Ly ["sides","going","seen","worlds","word"] 4
theorem Nn(de:%[|5]):%[|8] "barring_side" BC 4 (Jz K):=by
 refine de.h62.ok A2O ?_;rintro bz f dm A outer s H _ Q E hr ⟨sd,gg,sn,r,xs,sides,going,seen,row,rfl,hX,hR,wX,hxl,hG,wG,hN,wN,nne,hS,wS,q⟩;have l1:=wG.len;have l3:=wS.len
 refine#[_,Aa (AC 4 A2O.nd (Ax (Fe de) hr Al (AN (pv 2) (pv 3))))
  (Aa (Aq (AM AH (pv 4) Ae)
   (AX Cm)
   Ah)
  (AX (Ax (Jm de) hr Al (AN (pv 0) (Ax (IR de) hr Al (Ag (pv 4) (AN (pv 1) (pv 3)))))))),?_]
 unfold Tu at q;refine#[sn,r,seen,row,rfl,hN,wN,nne,hS,wS,λH3 s3=>?_];refine#[rfl,?_];by_cases e:Bu seen row="doubt"
 ·refine BL (by rw[e]) ?_;have q3:=q _ s3;rw[if_pos e]at q3;exact q3
 refine Bz (λz=>e (by injection z)) ?_;refine#[Bu seen row,gg,r,going,row,rfl,s3.seq hG,wG,s3.seq hS,by omega,λl H4 s4 gK jq=>?_];have fv:=s3.trans s4
 have hll:(C5 (Bu seen row) going row).length<=900:=by
  have:=Vw (Bu seen row) going row;omega
 refine#[sd,l,_,xs,sides,rfl,SqL.of jq,hll,fv _ _ hX,hR.keep fv,λs hs=>zCS (wX s hs).len %[|2],by omega,λH5 s5=>?_];have q5:=q _ (fv.trans s5);rw[if_neg e]at q5;exact q5
def Tp:=Au Pj ["sides","going","seen","worlds"] 4
theorem QF(de:%[|5]):%[|8] "answer" BC 5 (IQ K):=by
 refine de.h63.ok Tp ?_;rintro bz f dm A outer s H _ Q E hr ⟨sd,gg,sn,r,xs,sides,going,seen,row,rfl,hX,hR,wX,hxl,hG,wG,hN,wN,nne,hS,wS,q⟩;have l1:=wG.len;have l2:=wN.len;have l3:=wS.len
 refine#[_,Aa (Aq (Bv (Ax (Mc de) hr Al (AN (pv 1) (pv 3))))
   (AX Ae)
   Ah)
  (Aa (Aq (Ct (Bv (Ax (Hf de) hr Al (AN (pv 1) (pv 3)))))
   (AX Ae)
   Ah)
  (Aa (Aq (FJ (FV (Ax (Nn de) hr Al (Ag (pv 0) (Ag (pv 1) (AN (pv 2) (pv 3)))))))
   (AX (Ax (Fe de) hr Al (AN (pv 2) (pv 3))))
   Ah)
  (AX Ae))),?_]
 refine#[gg,r,going,row,rfl,hG,hS,l1,wG.2,by omega,λH1 s1=>?_]
 cases h0:going.all λk=>decide (k∈row)with
 |true=>
  refine AD ?_;have:=q _ s1;unfold CO at this;rw[if_pos ((KB _ _).mpr h0)]at this;exact this
 |false=>
  refine Aw ?_;have n0:¬EV going row=[]:=λz=>by rw[(KB _ _).mp z]at h0;cases h0
  refine#[gg,r,going,row,rfl,s1.seq hG,s1.seq hS,by omega,by omega,λH2 s2=>?_];have eE:=s1.trans s2
  cases h1:going.any λk=>decide (k∈row)with
  |false=>
   refine AD ?_;have:=q _ eE;unfold CO at this;rw[if_neg n0,if_pos ((Pe _ _).mpr h1)]at this;exact this
  |true=>
   refine Aw ?_;have n1:¬N2 going row=[]:=λz=>by rw[(Pe _ _).mp z]at h1;cases h1
   refine#[sd,gg,sn,r,xs,sides,going,seen,row,rfl,eE _ _ hX,hR.keep eE,wX,hxl,eE.seq hG,wG,eE.seq hN,wN,nne,eE.seq hS,wS,λH3 s3=>?_];have fj:=eE.trans s3
   cases hb:Tu sides going seen row with
   |none=>
    refine BL rfl ?_;refine#[sn,r,seen,row,rfl,fj.seq hN,wN,nne,fj.seq hS,wS,λH4 s4=>?_];have q5:=q _ (fj.trans s4);rw[G4 n0 n1,hb]at q5;exact q5
   |some i=>
    refine Bz (λz=>V.noConfusion z) ?_;have q5:=q _ fj;rw[G4 n0 n1,hb]at q5;exact q5
end
def CA:%[|17]->V
 |none=>.non
 |some b=>.bl b
def Ot(w:Int)(i:Nat):%[|17]->Bool
 |none=>true
 |some b=>decide (b=D2 i w)
def Dg(marks:List (%[|17]))(w:Int):Bool:=(marks.mapIdx (Ot w)).all id
theorem Mp{marks:List (%[|17])}{i:Nat}(w:Int)(h:marks[i]? = some m):(marks.take (i+1)).mapIdx (Ot w)=(marks.take i).mapIdx (Ot w)++[Ot w i m]:=by
 have hi:=%[h|117].1;have e:marks.take (i+1)=marks.take i++[m]:=by rw[zAQ,h];rfl
 rw[e,List.mapIdx_concat,zAW,Nat.min_eq_left %[|0]]
inductive Mg(vs:List V)(H:Hp)(Q:VK)(E:XK):Prop|mk(wd:Int)(m:Addr)(marks:List (%[|17]))(_:vs=[.int wd,.ref m])(_:H m=some (.lst (marks.map CA)))(_:marks.length<=5)(_:∀(H':Hp),A0B H H'->Q (.bl (Dg marks wd)) H')
inductive Lz(K:PySem.W.Frag)(vs:List V)(H:Hp)(Q:VK)(E:XK):Prop|mk(r m:Addr)(row:List Int)(marks:List (%[|17]))(_:vs=[.ref r,.ref m])(_:%[|70])(_:row.length<=900)(_:H m=some (.lst (marks.map CA)))(_:marks.length<=5)(_:∀(l:Addr)(H':Hp),A0B H H'->H l=none->AK H' l (row.filter (Dg marks))->Q (.ref l) H')
theorem ZI(h:tb D σ H):Du MB tb D σ H:=AD h
section
def RS:=Au PH ["world","marks"] 2
theorem QI(de:%[|5]):%[|8] "agrees" BC 2 Mg:=by
 refine de.h29.ok RS ?_;rintro bz f dm A outer s H _ Q E hr ⟨wd,m,marks,rfl,hm,hl,q⟩;refine#[_,AX (AQ (Dp rfl) %[|10] de.T.all boot_all (AI (A8 (N:=["letter","mark","world"]) (js:=[none,none,some 0]) (cl:=[("world",s.heap.objs.size+1)]) #[rfl,rfl,rfl,(by intro p hp;simp at hp;rcases hp with rfl<;>rfl),rfl,rfl,rfl] (Mh %[|10] de.zenumerate (AI (pv 1))) (λc1=>(SE rfl (FA (Bo 0 (show (["letter","mark","world"]:List Str).Nodup by decide +kernel)) (FA (Bo 1 (show (["letter","mark","world"]:List Str).Nodup by decide +kernel)) Pq)))) (λc1=>Bk) (λc1=>(IA (NY (FV (pv 1))) (DD (BF AH (pv 1) (Ax (LW de) hr Al (AN (pv 0) (pv 2))) (Cl _)))))))),?_];refine#[m,_,rfl,hm,λcc acc dq=>Je (a:=m) (xs:=marks.map CA) (λi σ H3=>Cd λ(v0 v1:Option V)=>BV (σ=[v0,v1,some (.int wd)]) (A0B H H3) (H3 acc=some (.lst (((marks.take i).mapIdx (Ot wd)).map V.bl)))) ?_ ?_ ?_ ?_]
 ·exact#[_,_,rfl,Ab dq _,A0A]
 ·rintro i σ H3 _ ⟨v0,v1,rfl,s3,h3⟩;exact s3 _ _ hm
 ·rintro i y T2 σ H3 hy eB ⟨v0,v1,rfl,s3,h3⟩;rw[List.getElem?_map]at hy;obtain⟨mk,hk,rfl⟩:=Option.map_eq_some_iff.mp hy;have hi:=%[hk|117].1;have sT:=Ab eB (.tup [.int (i:Nat),CA mk]);have h4:=sT _ _ h3;have s4:=s3.trans sT;refine#[SqT.of A0A,rfl,rfl,?_];show Du MB (Dm acc _) _ _ _;refine ZI ?_
  have dI:∀H5,A0B (upd H3 T2 (.tup [.int (i:Nat),CA mk])) H5->∃xs,BV (H5 acc=some %[|12]) (xs.length<sizeLine) ((λσ H3=>Cd λ(v0 v1:Option V)=>BV (σ=[v0,v1,some (.int wd)]) (A0B H H3) (H3 acc=some (.lst (((marks.take (i+1)).mapIdx (Ot wd)).map V.bl)))) [some (.int (i:Nat)),some (CA mk),some (.int wd)] (upd H5 acc (.lst (xs++[.bl (Ot wd i mk)])))):=λH5 s5=>by
   refine#[_,s5 _ _ h4,An ?_,_,_,rfl,Ao (s4.trans s5) dq _,?_]
   ·rw[List.length_map,List.length_mapIdx,zAW];omega
   ·rw[A0A,Mp wd hk,List.map_append];rfl
  cases mk with
  |none=>
   refine AD ?_;obtain⟨_,a,b,c⟩:=dI _ (A0B.refl _);exact#[_,a,b,c]
  |some b=>
   refine Aw ?_;refine#[i,wd,rfl,rfl,?_];have e:decide (CA (some b)=V.bl (D2 i wd))=Ot wd i (some b):=OI b (D2 i wd);rw[e];obtain⟨_,a,b,c⟩:=dI _ (A0B.refl _);exact#[_,a,b,c]
 ·rintro σ H3 ⟨v0,v1,rfl,s3,h3⟩;rw[List.length_map,zAP]at h3;exact#[acc,_,rfl,SqL.of h3,q _ s3]
def Tg:=Au Pd ["room","marks"] 2
theorem IP(de:%[|5]):%[|8] "seen_by" BC 3 (Lz K):=by
 refine de.h30.ok Tg ?_;rintro bz f dm A outer s H _ Q E hr ⟨r,m,row,marks,rfl,hS,hl,hm,kC,q⟩;refine#[_,AX (A8 (N:=["world","marks"]) (js:=[none,some 1]) (cl:=[("marks",s.heap.objs.size+1)]) #[rfl,rfl,rfl,(by intro p hp;simp at hp;rcases hp with rfl<;>rfl),rfl,rfl,rfl] (AT (pv 0)) (λc1=>(Bo 0 (show (["world","marks"]:List Str).Nodup by decide +kernel))) (λc1=>(CS (Bv (Ax (QI de) hr Al (AN (pv 0) (pv 1)))))) (λc1=>(pv 0))),?_];refine#[#[_,hS],λcc acc dq=>BO (p:=Dg marks) (rest:=[some (.ref m)]) hS dq hl (λk hk H2 s2 R hR=>?_) (λv0 H2 s2 h2=>q acc H2 s2 dq h2) none];exact#[k,m,marks,rfl,s2 _ _ hm,kC,λH3 s3=>hR H3 s3]
end
section
def RR:=Au Ov ["sides"] 1
theorem P9(de:%[|5]):%[|8] "base_of" BC 2 (RY K):=by
 refine de.h46.ok RR ?_;rintro bz f dm A outer s H _ Q E hr ⟨a,xs,rs,rfl,hS,hR,h64,q⟩;refine#[_,AX (Ax (X7 de) hr Al (AI (pv 0))),?_];exact#[a,xs,rs,rfl,hS,hR,h64,q]
end
theorem ND:E2 (AS z t row)<=row.length:=by
 have h:=Sa t row;unfold AS E2;split
 ·simp only[zAS,zDN,zBQ,List.sum_nil];omega
 ·split
  ·simp only[zAS,zDN,zBQ,List.sum_nil];omega
  ·simp only[zAS,zDN,zBQ,List.sum_nil];omega
theorem Sf(hr:Wr room)(hs:∀s∈sides,s.Sublist room)(hp:ns.Pairwise (· < ·))(hm:∀k,k∈ns↔∃row∈sides,k∈row):ns=C1 room sides:=
 GO hp (hr.1.sublist zAM) λk=>by
  rw[hm k];unfold C1;rw[List.mem_filter,zCF];constructor
  ·rintro⟨r,h1,h2⟩;exact#[(hs r h1).subset h2,r,h1,decide_eq_true h2]
  ·rintro⟨_,r,h1,h2⟩;exact#[r,h1,of_decide_eq_true h2]
theorem TU{K:PySem.W.Frag}{sub sub2:%[|6]}(lC:K.lookup C=some (excClassObj nm q C N bs (.ref cT::Lr) true sn sub ab jI dd k0 k1 k2 k3 k5 "ValueError.__new__"))(lN:K.lookup N=some #[oc,od,.dict es ep,sl])(sN:(es.all λe=>match e.key with|.str _ _=>true|_=>false)=true)(iN:nsIn K N "__init__"=some none)(lT:K.lookup cT=some #[.type "type",dd2,.cls {name:=nm2,bases:=bs2,mro:=.ref cT::Lr,ns:=NT,qualname:=q2,hasDict:=hd2,slotNames:=sn2,subclasses:=sub2,abstract:=ab2,collection:=col2,hasDel:=false},#v[j0,j1,j2,j3,j4,j5]])(lNT:K.lookup NT=some #[oc2,od2,.dict es2 ep2,sl2])(sNT:(es2.all λe=>match e.key with|.str _ _=>true|_=>false)=true)(iNT:nsIn K NT "__init__"=some none)(kp:keepIn K (.ref C)=true):YM K C cT none:=
 #[#[nm,q,N,bs,true,sn,sub,ab,jI,dd,k0,k1,k2,k3,k5,lC,PF lN sN,iN],RC lT (PF lNT sNT) iNT,kp]
def BK(z:Str):Prop:=z="true"\/z="false"\/z="doubt"
instance(z:Str):Decidable (BK z):=by unfold BK;infer_instance
abbrev A0N(H H':Hp):List V->%[|25]->Prop:=Paired λ(v:V)(row:List Int)=>∃p,BV (v=.ref p) (H p=none) (AK H' p row)
theorem A0N.at{H H':Hp}:∀{xs:List V}{rs:%[|25]},A0N H H' xs rs->A0F H' xs rs
 |_,_,.nil=>.nil
 |_,_,.cons ⟨p,e,_,h⟩ q=>.cons #[p,e,h] (A0N.at q)
theorem A0N.keep{H H' H2:Hp}(s:A0B H' H2):∀{xs:List V}{rs:%[|25]},A0N H H' xs rs->A0N H H2 xs rs
 |_,_,.nil=>.nil
 |_,_,.cons ⟨p,e,n,h⟩ q=>.cons #[p,e,n,s _ _ h] (A0N.keep s q)
inductive IJ(K:PySem.W.Frag)(cB cN:Addr)(vs:List V)(H:Hp)(Q:VK)(E:XK):Prop|mk(r:Addr)(z:Str)(v:V)(t:Tr)(row:List Int)(_:vs=[.ref r,.str z,v])(_:t.At H v)(_:t.ok 5)(_:t.size<=800)(_:%[|70])(_:Wr row)(_:(¬BK z->∀H',A0B H H'->E (.ref cB) none H'))(_:(BK z->[]∈AS z t row->∀H',A0B H H'->E (.ref cN) none H'))(_:(BK z->[]∉AS z t row->∀(l:Addr)(xs:List V)(H':Hp),A0B H H'->H l=none->H' l=some %[|12]->A0N H H' xs (AS z t row)->(∀x∈xs,x≠.ref l)->Q (.ref l) H'))
def Hg:List V:=[.str "true",.str "false",.str "doubt"]
theorem Ql(z:Str):Oc (.str z) Hg=decide (BK z):=by
 unfold Oc Hg BK;simp only[zBW,List.any_nil,zCO]
 have e:∀y:Str,MM (.str y) (.str z)=decide (z=y):=λy=>by
  show (y == z)=decide (z=y);by_cases h:z=y
  ·subst h;simp
  ·rw[decide_eq_false h];exact beq_false_of_ne λq=>h q.symm
 rw[e,e,e,zA4];simp only[zBE,decide_eq_true_eq];exact decide_eq_true_iff.symm
theorem WI(hr:Wr row)(hp:ns.Pairwise (· < ·))(hm:∀k,k∈ns↔k∈row/\k∉row.filter λk=>tv t k == true):ns=%[|29] row:=
 GO hp (hr.1.sublist zAM) λk=>by
  rw[hm k];unfold AG;rw[List.mem_filter,List.mem_filter];constructor
  ·rintro⟨h1,h2⟩;refine#[h1,?_]
   cases h:tv t k with
   |false=>rfl
   |true=>exact absurd #[h1,by rw[h];rfl] h2
  ·rintro⟨h1,h2⟩;refine#[h1,λh3=>?_];have e1:=h3.2;have e2:tv t k=false:=eq_of_beq h2;rw[e2]at e1;cases e1
theorem NJ{r:List Int}:(r.map V.int).isEmpty=r.isEmpty:=by cases r<;>rfl
theorem IZ(rs:%[|25]):(rs.map List.isEmpty).any id=decide ([]∈rs):=by
 induction rs with
 |nil=>rfl
 |cons r rs ih=>
  rw[zAS,zBW,ih]
  cases r with
  |nil=>simp
  |cons a b=>simp
theorem MA{K:PySem.W.Frag}(h:A0F H xs rs):∀(i:Nat) v b,xs[i]? = some v->(rs.map List.isEmpty)[i]? = some b->Cd λa zs=>BV (v=.ref a) (SqL K H a zs) (b=zs.isEmpty):=λi v b hv hb=>by
 obtain⟨row,p,hr,rfl,hp⟩:=h.get hv;rw[List.getElem?_map,hr]at hb;refine#[p,_,rfl,SqL.of hp,?_];rw[NJ];exact (zAH hb).symm
section
def A1K:=Au KM ["room","kind","sentence","inside","outside","sides"] 3
theorem N0(de:%[|5]):%[|8] "sides_of" (EI P w) 4 (IJ K cB cN):=by
 refine de.h44.okX A1K ?_;rintro bz f dm A outer s H _ Q E hr ⟨r,z,v,t,row,rfl,ha,hok,hsz,hS,hwr,qB,qN,qO⟩;have hl:=hwr.len
 refine#[_,Aa (Aq (Cp Fp (pv 1) (Bj (Ag Ae (AN Ae Ae))) %[|32])
   (Ak (Br (Ex:=E) BI rfl de.X_BadWord.cls de.X_BadWord.at_ de.X_BadWord.ty %[|10] de.X_BadWord.m (AI Ae) (hvl:=λ_ _ _ h=>#[by decide,h])))
   Ah)
  (Aa (AC 3 A1K.nd (Ax (CI de) hr Al (AN (pv 2) (pv 0))))
  (Aa (AC 4 A1K.nd (Ax (Hl de) hr Al (AN (pv 0) (pv 3))))
  (Aa (Aq (AM AH (pv 1) Ae)
   (Ak (AC 5 A1K.nd (Av (AI (pv 3)))))
   (Ak (Aq (AM AH (pv 1) Ae)
    (Ak (AC 5 A1K.nd (Av (AI (pv 4)))))
    (Ak (AC 5 A1K.nd (Av (AN (pv 3) (pv 4))))))))
  (Aa (Aq (Cp (RW hr.units9) (Av Bi) (pv 5) %[|32])
   (Ak (Br (Ex:=E) BI rfl de.X_NoStanding.cls de.X_NoStanding.at_ de.X_NoStanding.ty %[|10] de.X_NoStanding.m (AI Ae) (hvl:=λ_ _ _ h=>#[by decide,h])))
   Ah)
  (AX (pv 5)))))),?_]
 refine#[ML,λkt hkt=>?_];have s1:=Ab hkt (.tup Hg);refine#[kt,Hg,rfl,.inr (SqT.of A0A),rfl,rfl,?_];show If (!Oc (.str z) Hg) _ _;rw[Ql];by_cases hk:BK z
 rotate_left
 ·refine UW hk ?_;exact qB hk _ s1
 refine Tj hk ?_;have a1:=ha.keep (TS.same s1);refine#[v,t,r,row,rfl,a1,hok,hsz,s1.seq hS,hwr,λil H2 s2 iG gX=>?_];have t2:=s1.trans s2;have jP:(row.filter λk=>tv t k == true).length<=32:=zAC (zAV _ _) hl;refine#[r,il,row,_,rfl,t2.seq hS,SqL.of gX,hl,hwr.2,by omega,λol H3 ns s3 hV hp hm g5=>?_];have en:=WI hwr hp hm;subst en;have t3:=t2.trans s3;have jR:AK H3 il (%[|15] row):=s3 _ _ gX;have nil0:H il=none:=s1.free iG;have nol0:H ol=none:=t2.free hV;have nio:il≠ol:=Ai gX hV
 have dI:∀(sl:Addr)(xs:List V)(H4:Hp),A0B H3 H4->H3 sl=none->H4 sl=some %[|12]->A0N H H4 xs (AS z t row)->(∀x∈xs,x≠.ref sl)->∀(e:Addr),H4 e=none->∀(G:Bool->Hp->Prop),(∀H',E (.ref cN) none H'->G true H')->(∀H',Q (.ref sl) H'->G false H')->
   YE K (.ref e) (.ref sl) (upd H4 e %[|9]) (TQ G):=λsl xs H4 s4 hsl0 d3 hR dB e he G g1 g2=>by
  have s5:=Ab he %[|9];refine#[e,sl,xs,(AS z t row).map List.isEmpty,rfl,rfl,SqL.of A0A,SqL.of (s5 _ _ d3),?_,MA (hR.at.keep s5),?_]
  ·rw[List.length_map];exact hR.at.len.symm
  ·rw[IZ];by_cases gZ:[]∈AS z t row
   ·rw[decide_eq_true gZ];exact g1 _ (qN hk gZ _ (t3.trans (s4.trans s5)))
   ·rw[decide_eq_false gZ];refine g2 _ ?_;exact qO hk gZ sl xs _ (t3.trans (s4.trans s5)) (t3.free hsl0) (s5 _ _ d3) (hR.keep s5) dB
 refine#[rfl,?_];by_cases h0:z="true"
 ·refine BL (by rw[h0]) ?_;refine#[OP,λsl d3=>?_];have s4:=Ab d3 (.lst [.ref il]);refine#[GD,λe he=>?_];have eR:AS z t row=[%[|15] row]:=by unfold AS;rw[if_pos h0]
  exact dI sl [.ref il] _ s4 d3 A0A (by rw[eR];exact .cons #[il,rfl,nil0,s4 _ _ jR] .nil) (λx hx=>by rw[List.mem_singleton.mp hx];intro q;exact Ai jR d3 (V.ref.inj q)) e he _ (λH' h=>AD h) (λH' h=>Aw h)
 refine Bz (λq=>h0 (by injection q)) ?_;refine#[rfl,?_];by_cases h1:z="false"
 ·refine BL (by rw[h1]) ?_;refine#[OP,λsl d3=>?_];have s4:=Ab d3 (.lst [.ref ol]);refine#[GD,λe he=>?_];have eR:AS z t row=[%[|29] row]:=by unfold AS;rw[if_neg h0,if_pos h1]
  exact dI sl [.ref ol] _ s4 d3 A0A (by rw[eR];exact .cons #[ol,rfl,nol0,s4 _ _ g5] .nil) (λx hx=>by rw[List.mem_singleton.mp hx];intro q;exact Ai g5 d3 (V.ref.inj q)) e he _ (λH' h=>AD h) (λH' h=>Aw h)
 refine Bz (λq=>h1 (by injection q)) ?_;refine#[C4,λsl d3=>?_];have s4:=Ab d3 (.lst [.ref il,.ref ol]);refine#[GD,λe he=>?_];have eR:AS z t row=[%[|15] row,%[|29] row]:=by unfold AS;rw[if_neg h0,if_neg h1]
 refine dI sl [.ref il,.ref ol] _ s4 d3 A0A (by rw[eR];exact .cons #[il,rfl,nil0,s4 _ _ jR] (.cons #[ol,rfl,nol0,s4 _ _ g5] .nil)) (λx hx=>by
  rcases List.mem_cons.mp hx with q|q
  ·rw[q];intro q;exact Ai jR d3 (V.ref.inj q)
  ·rw[List.mem_singleton.mp q];intro q;exact Ai g5 d3 (V.ref.inj q)) e he _ (λH' h=>AD h) (λH' h=>Aw h)
end
def Db:Tr->List Int
 |.lt k=>[(k:Int)]
 |.nt t=>Db t
 |.bn _ a b=>Db a++Db b
def C7(ts:List Tr):List Int:=ts.flatMap Db
def WU:Tr->List Int
 |.lt k=>[(k:Int)]
 |_=>[]
def G1(ts:List Tr):List Int:=ts.flatMap WU
theorem TC:∀t:Tr,Db t=WU t++C7 (MN t)
 |.lt _=>rfl
 |.nt t=>by show Db t=[]++(Db t++[]);simp
 |.bn _ a b=>by show Db a++Db b=[]++(Db a++(Db b++[]));simp
theorem QW(a b:List Tr):C7 (a++b)=C7 a++C7 b:=by unfold C7;rw[List.flatMap_append]
theorem Qm(ts:List Tr)(k:Int):k∈C7 ts↔k∈G1 ts\/k∈C7 (CL ts):=by
 induction ts with
 |nil=>simp[C7,G1,CL]
 |cons t r ih=>
  have e1:C7 (t::r)=Db t++C7 r:=rfl;have e2:G1 (t::r)=WU t++G1 r:=rfl;have e3:CL (t::r)=MN t++CL r:=rfl;rw[e1,e2,e3,QW,TC];simp only[zDA,ih];constructor
  ·rintro ((h|h)|(h|h))
   ·exact .inl (.inl h)
   ·exact .inr (.inl h)
   ·exact .inl (.inr h)
   ·exact .inr (.inr h)
  ·rintro ((h|h)|(h|h))
   ·exact .inl (.inl h)
   ·exact .inr (.inl h)
   ·exact .inl (.inr h)
   ·exact .inr (.inr h)
theorem FK{ts:List Tr}{i:Nat}(h:ts[i]? = some t):G1 (ts.take (i+1))=G1 (ts.take i)++WU t:=by
 unfold G1;rw[zAQ,h,List.flatMap_append];simp
theorem TS.ext(h:H l=some o)(n:∀xs,o≠.tup xs):TS H (upd H l u):=λp ys e=>by
 rw[Af (AV e h λz=>n ys z.symm)];exact e
inductive Iw(vs:List V)(H:Hp)(Q:VK)(E:XK):Prop|mk(v:V)(t:Tr)(_:vs=[v])(_:t.At H v)(_:t.size<=60)(_:∀(l:Addr)(ns:List Int)(H':Hp),A0B H H'->H l=none->H' l=some (.lst %[|28])->ns.Pairwise (· < ·)->(∀k,k∈ns↔k∈Db t)->Q (.ref l) H')
section
def A1P:=Au K1 ["sentence","found","layer","part"] 1
inductive bB(w:World)(H:Hp)(v:V)(t:Tr)(fa:Addr)(m:Nat)(σ:L2.St)(H3:Hp):Prop|mk(S:Int->Bool)(n:Nat)(r:Addr)(ys:List V)(ts:List Tr)(pp:Option V)(_:σ=[some v,some (.ref fa),some (.ref r),pp])(_:A0B H H3)(_:H3 fa=some (BE w fa S n))(_:H3 r=some (.lst ys))(_:A0J H3 ys ts)(_:n+sz ts<=60)(_:(∀k,k∈Db t↔S k=true\/k∈C7 ts))(_:sz ts=m)
theorem NE(de:%[|5]):%[|8] "letters" BC 2 Iw:=by
 refine de.h37.ok A1P ?_;rintro bz f dm A outer s H _ Q E hr ⟨v,t,rfl,ha,hs,q⟩
 refine#[_,Aa (AC 1 A1P.nd (Nt Qp %[|10] de.T.set boot_set))
  (Aa (AC 2 A1P.nd (Av (AI (pv 0))))
  (Aa (Ei zAR (B6 (pv 2) (λ_=>rfl))
   (Aa (BB zAR rfl (AT (pv 2)) (Bo 3 A1P.nd)
    (Ak (Aq (AM AH %[|57] Ae)
     (Ak (As (WF (pv 1) (AI %[|57]))))
     Ah)))
   (Ak (AC 2 A1P.nd (Ax (LM de) hr Al (AI (pv 2)))))))
  (AX (AQ (DK rfl) %[|10] de.T.sorted boot_sorted (AI (pv 1)))))),?_]
 refine#[rfl,λfa hfa=>?_];have s1:=Ab hfa (BE w fa (λ_=>false) 0);refine#[OP,λl hl=>?_];have s2:=Ab hl (.lst [v]);have e1:sz [t]=t.size:=by unfold sz;simp
 refine#[bB w H v t fa,#[_,λ_=>false,0,l,[v],[t],none,rfl,s1.trans s2,s2 _ _ A0A,A0A,.cons (ha.keep ((TS.same s1).trans (TS.same s2))) .nil,by omega,λk=>?_,rfl],?_]
 ·have:C7 [t]=Db t:=by unfold C7;simp
  rw[this];simp
 rintro m σ H3 ⟨S,n,r,ys,ts,pp,rfl,s3,hf3,hr3,p3,hn3,hm3,rfl⟩;refine#[_,.inl #[ys,SqL.of hr3,rfl],?_];exists 12
 ·refine#[λσ' H'=>∃m',m'<sz ts/\bB w H v t fa m' σ' H',λ_ _ h=>h,?_];have dj:=p3.len
  have fS:0<ts.length:=by
   rw[<-dj]
   cases ys with
   |nil=>exact absurd c %[|2]
   |cons _ _=>exact zBH _
  refine#[#[_,SqL.of hr3],A0 (K:=K) (a:=r) (xs:=ys) (λi σ H4=>Fb λ(S2:Int->Bool)(n2:Nat)(pp:Option V)=>aW (σ=[some v,some (.ref fa),some (.ref r),pp]) (A0B H H4) (H4 fa=some (BE w fa S2 n2)) (H4 r=some (.lst ys)) (A0J H4 ys ts) (n2<=n+i) (∀k,S2 k=true↔S k=true\/k∈G1 (ts.take i))) ?_ ?_ ?_ ?_]
  ·exact#[S,n,pp,rfl,s3,hf3,hr3,p3,zAA _,λk=>by simp[G1]]
  ·rintro i σ H4 _ ⟨S2,n2,pp,rfl,s4,_,f7,_⟩;exact SqL.of f7
  ·rintro i x σ H4 hx ⟨S2,n2,pp,rfl,s4,hf4,f7,p4,hn4,hm4⟩;obtain⟨t2,ht2,dN⟩:=B5 p4 hx;have hi:i<ys.length:=%[hx|117].1;have hsz:=JG ts
   cases t2 with
   |lt j=>
    obtain⟨p,rfl,hp⟩:=dN;exists 8;refine BL rfl ?_;refine#[fa,S2,n2,rfl,hf4,SqT.of hp,Ac (j:=1) rfl,_,S2,n2,rfl,hf4,by omega,?_];have kk:TS H4 (upd H4 fa (BE w fa (λk=>S2 k || decide (k=(j:Int))) (n2+1))):=TS.ext hf4 (λxs z=>by cases z);refine#[_,n2+1,_,rfl,Ao s4 hfa _,A0A,by rw[Af (AV f7 hf4 %[|11])];exact f7,p4.keep kk,by omega,λk=>?_];rw[zBE,decide_eq_true_eq,hm4 k,FK ht2,zDA];show (_\/_)\/k=(j:Int)↔_\/_\/k∈[(j:Int)];rw[zBZ,or_assoc]
   |nt t3=>
    obtain⟨p,u,rfl,hp,_⟩:=dN;exists 8;refine Bz %[|2] ?_;refine#[S2,n2,_,rfl,s4,hf4,f7,p4,by omega,λk=>?_];rw[hm4 k,FK ht2];show _↔_\/k∈G1 (ts.take i)++[];rw[zA6]
   |bn j a b=>
    obtain⟨p,u,u2,rfl,hp,_⟩:=dN;exists 8;refine Bz FU ?_;refine#[S2,n2,_,rfl,s4,hf4,f7,p4,by omega,λk=>?_];rw[hm4 k,FK ht2];show _↔_\/k∈G1 (ts.take i)++[];rw[zA6]
  ·rintro σ H4 ⟨S2,n2,pp,rfl,s4,hf4,f7,p4,hn4,hm4⟩;rw[dj,zAP]at hm4;have hk:=O0 ts;refine#[r,ys,ts,rfl,SqL.of f7,p4,by omega,λr2 zs H5 s5 hr5 p5=>?_];refine#[sz (CL ts),by omega,S2,n2,r2,zs,CL ts,_,rfl,s4.trans s5,s5 _ _ hf4,hr5,p5,by omega,λk=>?_,rfl];rw[hm3 k,Qm,hm4 k,or_assoc]
 ·have e:ts=[]:=by
   cases p3 with
   |nil=>rfl
   |cons h1 h2=>exact absurd rfl c
  subst e;refine#[fa,S,n,rfl,hf3,by omega,λl2 ns dG hp hm=>?_];refine q l2 ns _ (s3.trans (Ab dG _)) (s3.free dG) A0A hp λk=>?_
  rw[hm k,hm3 k];simp[C7]
end
theorem GM:∀{t:Tr}{m:Nat},t.ok 5->(t.ok m↔∀k∈Db t,k<(m:Int))
 |.lt j,m,_=>by
  show j<m↔∀k∈[(j:Int)],k<(m:Int);simp
 |.nt t,m,h=>GM (t:=t) h
 |.bn j a b,m,h=>by
  have h1:=GM (m:=m) h.2.1;have h2:=GM (m:=m) h.2.2;show (j<4/\a.ok m/\b.ok m)↔∀k∈Db a++Db b,k<(m:Int);rw[h1,h2];constructor
  ·rintro⟨_,q1,q2⟩ k hk;rcases List.mem_append.mp hk with z|z
   ·exact q1 k z
   ·exact q2 k z
  ·intro q;exact#[h.1,λk hk=>q k (zBM _ hk),λk hk=>q k (zAE _ hk)]
theorem JW:∀t:Tr,∃k,k∈Db t
 |.lt j=>#[(j:Int),by simp[Db]]
 |.nt t=>JW t
 |.bn _ a b=>by
  obtain⟨k,hk⟩:=JW a;exact#[k,zBM _ hk]
theorem VQ{ns:List Int}{x:Int}(h:(ns++[x]).Pairwise (· < ·)):∀k∈ns++[x],k<=x:=λk hk=>by
 rcases List.mem_append.mp hk with z|z
 ·exact Int.le_of_lt ((List.pairwise_append.mp h).2.2 k z x %[|1])
 ·rw[List.mem_singleton.mp z];exact zDI _
theorem KS{α:Type}(xs:List α)(x:α):DR (xs++[x]) (-1)=some x:=by
 have e:Qq (xs++[x]).length (-1)=some xs.length:=by
  unfold Qq;rw[if_neg %[|2],zA];show (if _ then _ else _)=_;rw[if_pos (by show -(((xs.length+1:Nat)):Int)<=-1;omega)]
  congr 1
  show (((xs.length+1:Nat):Int) + -1).toNat=xs.length;omega
 unfold DR;rw[e];show (xs++[x])[xs.length]? = some x;simp
inductive Lg(cS:Addr)(vs:List V)(H:Hp)(Q:VK)(E:XK):Prop|mk(v:V)(t:Tr)(m:Nat)(_:vs=[v,.int m])(_:t.At H v)(_:t.ok 5)(_:t.size<=60)(_:(¬t.ok m->∀H',A0B H H'->E (.ref cS) none H'))(_:(t.ok m->∀H',A0B H H'->Q .non H'))
section
def QE:=Au Lh ["sentence","many"] 2
theorem El(de:%[|5]):%[|8] "refuse_strange" (EI P w) 3 (Lg cS):=by
 refine de.h38.okX QE ?_;rintro bz f dm A outer s H _ Q E hr ⟨v,t,m,rfl,ha,hok,hsz,qE,q⟩
 refine#[_,Ak (Aq (AM Uq (Am Ay (Ax (NE de) hr Al (AI (pv 0))) (HJ EY Ad)) (pv 1))
   (Ak (Br (Ex:=E) BI rfl de.X_StrangeLetter.cls de.X_StrangeLetter.at_ de.X_StrangeLetter.ty %[|10] de.X_StrangeLetter.m (AI Ae) (hvl:=λ_ _ _ h=>#[by decide,h])))
   Ah),?_]
 refine#[v,t,rfl,ha,hsz,λl ns H1 s1 gK hl hp hm=>?_];obtain⟨k0,hk0⟩:=JW t;have dB:ns≠[]:=List.ne_nil_of_mem ((hm k0).mpr hk0);obtain⟨ms,x,rfl⟩:Cd λms x=>ns=ms++[x]:=#[ns.dropLast,ns.getLast dB,(List.dropLast_concat_getLast dB).symm]
 have hmax:=VQ hp;have hx:x∈Db t:=(hm x).mp %[|1];have hiff:=GM (m:=m) hok;have dN:DR ((ms++[x]).map V.int) (-1)=some (.int x):=by rw[List.map_append];exact KS _ _
 refine#[_,rfl,SqL.of hl,dN,?_];by_cases c:t.ok m
 ·refine Bz (λz=>?_) (q c _ s1);have:=hiff.mp c x hx;have z':x>=(m:Int):=z;omega
 ·refine BL ?_ (qE c _ s1);show x>=(m:Int);refine Int.not_lt.mp λz=>c (hiff.mpr λk hk=>?_)
  have:=hmax k ((hm k).mpr hk);omega
end
def A1(M:%[|3])(H:Hp):Hp:=λb=>if b∈M then none else H b
section
variable {M N:%[|3]}{H H' H0 H1:Hp}{a b l:Addr}{o:HO}
theorem Bc(h:A1 M H b=some o):H b=some o/\b∉M:=by
 unfold A1 at h;by_cases c:b∈M
 ·rw[if_pos c]at h;cases h
 ·rw[if_neg c]at h;exact#[h,c]
theorem AW(h:H b=some o)(n:b∉M):A1 M H b=some o:=by unfold A1;rw[if_neg n];exact h
theorem A0D:A0B (A1 M H) H:=λb o h=>(Bc h).1
theorem Aj(s:A0B H H'):A0B (A1 M H) (A1 M H'):=λb o h=>AW (s _ _ (Bc h).1) (Bc h).2
theorem BA(h:a∈M):A1 M (upd H a o)=A1 M H:=by
 funext b
 unfold A1;by_cases c:b∈M
 ·rw[if_pos c,if_pos c]
 ·rw[if_neg c,if_neg c,Af (λz=>c (by rw[z];exact h))]
abbrev But(M:%[|3])(H H':Hp):Prop:=A0B (A1 M H) (A1 M H')
theorem But.upd(h:a∈M):But M H (upd H a o):=by
 show A0B (A1 M H) (A1 M (L2.upd H a o));rw[BA h];exact A0B.refl _
theorem But.wide(h:∀x∈M,x∈N)(s:But M H H'):But N H H':=λb o e=>by
 obtain⟨e1,n⟩:=Bc e;exact AW (Bc (s b o (AW e1 λz=>n (h b z)))).1 n
theorem But.same(off:∀m∈M,H0 m=none)(s0:A0B H0 H)(s:But M H H'):A0B H0 H':=λb o e=>
 (Bc (s b o (AW (s0 _ _ e) λz=>by rw[off b z]at e;cases e))).1
theorem But.at(s:But M H H')(h:H b=some o)(n:b∉M):H' b=some o:=(Bc (s b o (AW h n))).1
end
structure Tk where
 dx:Addr
 sp:Addr
 pt:Addr
 gv:Addr
 lf:Addr
 sv:V
 pxs:List V
 ges:List V
 lfs:List V
structure Ta where
 many:Nat
 kind:Str
 rule:Str
 t:Tr
 room:List Int
 ents:List (V×Tr×Str)
 lefts:%[|25]
 ended:Bool
def Ta.sides(W:Ta):List %[|109]:=AS W.kind W.t W.room
def Ta.base(W:Ta):List Int:=W.lefts.headD []
def Ta.held(W:Ta):List Int:=W.lefts.getLastD []
def Ta.going(W:Ta):List Int:=if W.rule="elder" then W.held else W.base
def Df(U:Tk)(W:Ta):List (Str×V):=[("many",.int W.many),("kind",.str W.kind),("sentence",U.sv),("rule",.str W.rule),("space",.ref U.sp),("parts",.ref U.pt),("given",.ref U.gv),("left",.ref U.lf),("ended",.bl W.ended)]
abbrev A0K(H:Hp):List V->List (V×Tr×Str)->Prop:=Paired λ(v:V)(e:V×Tr×Str)=>∃p,BV (v=.ref p) (H p=some (.tup [e.1,.str e.2.2])) (e.2.1.At H e.1)
theorem A0K.keep{H H':Hp}(s:A0B H H'):∀{xs:List V}{es:List (V×Tr×Str)},A0K H xs es->A0K H' xs es
 |_,_,.nil=>.nil
 |_,_,.cons ⟨p,e,h,a⟩ q=>.cons #[p,e,s _ _ h,a.keep (TS.same s)] (A0K.keep s q)
structure A0E(M:%[|3])(C:Addr)(H:Hp)(a:Addr)(U:Tk)(W:Ta):Prop where
 ob:H a=some (.ins C U.dx (Df U W))
 gv:H U.gv=some (.lst U.ges)
 lf:H U.lf=some (.lst U.lfs)
 ma:a∈M
 mg:U.gv∈M
 ml:U.lf∈M
 ne:U.gv≠U.lf
 room:AK (A1 M H) U.sp W.room
 tr:W.t.At (A1 M H) U.sv
 pt:A1 M H U.pt=some (.lst U.pxs)
 sd:A0F (A1 M H) U.pxs W.sides
 en:A0K (A1 M H) U.ges W.ents
 lr:A0F (A1 M H) U.lfs W.lefts
 wr:Wr W.room
 wl:∀l∈W.lefts,l.Sublist W.room
 ln:W.lefts≠[]
 l9:W.lefts.length<=900
 e9:W.ents.length<=900
 tok:W.t.ok W.many
 m5:W.many<=5
 tsz:W.t.size<=23
 kd:BK W.kind
 ns:[]∉W.sides
 rl:W.rule="elder"\/W.rule="newer"
section
variable {M:%[|3]}{C:Addr}{H H':Hp}{a:Addr}{U:Tk}{W:Ta}
theorem A0E.keep(s:A0B H H')(h:%[|30]):A0E M C H' a U W:=
 #[s _ _ h.ob,s _ _ h.gv,s _ _ h.lf,h.ma,h.mg,h.ml,h.ne,Aj s _ _ h.room,h.tr.keep (TS.same (Aj s)),Aj s _ _ h.pt,h.sd.keep (Aj s),h.en.keep (Aj s),h.lr.keep (Aj s),h.wr,h.wl,h.ln,h.l9,h.e9,h.tok,h.m5,h.tsz,h.kd,h.ns,h.rl]
theorem Lb(h:A0K H xs []):xs=[]:=by
 cases h;rfl
theorem A0E.but(b:But M H H')(ha:H' a=H a)(hg:H' U.gv=H U.gv)(hl:H' U.lf=H U.lf)(h:%[|30]):A0E M C H' a U W:=
 #[ha.trans h.ob,hg.trans h.gv,hl.trans h.lf,h.ma,h.mg,h.ml,h.ne,b _ _ h.room,h.tr.keep (TS.same b),b _ _ h.pt,h.sd.keep b,h.en.keep b,h.lr.keep b,h.wr,h.wl,h.ln,h.l9,h.e9,h.tok,h.m5,h.tsz,h.kd,h.ns,h.rl]
theorem A0E.ws(h:%[|30]):∀s∈W.sides,Wr s:=λs hs=>h.wr.sub (F7 hs)
theorem Px:(Df U W).lookup ("many":Str)=some (.int W.many):=by with_unfolding_all rfl
theorem V7:(Df U W).lookup ("kind":Str)=some (.str W.kind):=by with_unfolding_all rfl
theorem KZ:(Df U W).lookup ("sentence":Str)=some U.sv:=by with_unfolding_all rfl
theorem Ob:(Df U W).lookup ("rule":Str)=some (.str W.rule):=by with_unfolding_all rfl
theorem G6:(Df U W).lookup ("space":Str)=some (.ref U.sp):=by with_unfolding_all rfl
theorem MF:(Df U W).lookup ("parts":Str)=some (.ref U.pt):=by with_unfolding_all rfl
theorem Ea:(Df U W).lookup ("given":Str)=some (.ref U.gv):=by with_unfolding_all rfl
theorem DF:(Df U W).lookup ("left":Str)=some (.ref U.lf):=by with_unfolding_all rfl
theorem HA:(Df U W).lookup ("ended":Str)=some (.bl W.ended):=by with_unfolding_all rfl
theorem Vy:(Df U W).lookup ("base":Str)=none:=by with_unfolding_all rfl
theorem Ox:(Df U W).lookup ("held":Str)=none:=by with_unfolding_all rfl
theorem Uy:(Df U W).lookup ("going":Str)=none:=by with_unfolding_all rfl
theorem NL:(Df U W).lookup ("entries":Str)=none:=by with_unfolding_all rfl
theorem Q6:(Df U W).lookup ("caught":Str)=none:=by with_unfolding_all rfl
theorem N6:(Df U W).lookup ("over":Str)=none:=by with_unfolding_all rfl
theorem SV:(Df U W).lookup ("ask":Str)=none:=by with_unfolding_all rfl
theorem YS:(Df U W).lookup ("say":Str)=none:=by with_unfolding_all rfl
theorem Vu:(Df U W).lookup ("back":Str)=none:=by with_unfolding_all rfl
theorem VS:(Df U W).lookup ("fork":Str)=none:=by with_unfolding_all rfl
theorem YJ:(Df U W).lookup ("end":Str)=none:=by with_unfolding_all rfl
end
theorem EF(h:A0F H xs rs)(ne:rs≠[]):∃p,DR xs 0=some (.ref p)/\AK H p (rs.headD []):=by
 cases h with
 |nil=>exact absurd rfl ne
 |cons r q=>
  obtain⟨p,rfl,hp⟩:=r;exact#[p,Ac (j:=0) rfl,hp]
theorem Eu{H:Hp}:∀{xs:List V}{rs:%[|25]},A0F H xs rs->rs≠[]->Cd λys p=>BV (xs=ys++[.ref p]) (A0F H ys rs.dropLast) (AK H p (rs.getLastD []))
 |_,_,.nil,ne=>absurd rfl ne
 |[_],[_],.cons ⟨p,rfl,hp⟩ .nil,_=>#[[],p,rfl,.nil,hp]
 |x::_::_,_::_::_,.cons hx (.cons h2 q),_=>by
  obtain⟨ys,p,e,h1,h3⟩:=Eu (.cons h2 q) (zC9 _ _);exact#[x::ys,p,by rw[e];rfl,.cons hx h1,h3]
theorem Dl(h:A0F H xs rs)(ne:rs≠[]):∃p,DR xs (-1)=some (.ref p)/\AK H p (rs.getLastD []):=by
 obtain⟨ys,p,rfl,_,hp⟩:=Eu h ne;exact#[p,KS _ _,hp]
theorem A0E.s9(h:%[|30]):W.sides.length<=900:=by
 unfold Ta.sides;rcases Jr (z:=W.kind) (t:=W.t) (row:=W.room)with⟨x,e⟩|⟨x,y,e⟩<;>rw[e]<;>simp
theorem A0E.held_in(h:%[|30]):W.held∈W.lefts:=by
 unfold Ta.held;have:=h.ln
 cases e:W.lefts with
 |nil=>exact absurd e this
 |cons x r=>
  rw[List.getLastD_eq_getLast?,List.getLast?_eq_some_getLast (zC9 x r)];exact List.getLast_mem _
theorem A0E.base_in(h:%[|30]):W.base∈W.lefts:=by
 unfold Ta.base;have:=h.ln
 cases e:W.lefts with
 |nil=>exact absurd e this
 |cons x r=>exact List.mem_cons_self
theorem A0E.held_wr(h:%[|30]):Wr W.held:=h.wr.sub (h.wl _ h.held_in)
theorem A0E.base_wr(h:%[|30]):Wr W.base:=h.wr.sub (h.wl _ h.base_in)
theorem A0E.going_wr(h:%[|30]):Wr W.going:=by
 unfold Ta.going;split
 ·exact h.held_wr
 ·exact h.base_wr
theorem A0E.held_len(h:%[|30]):W.held.length<=32:=h.held_wr.len
section
variable {bz:Heap}
inductive OY(C:Addr)(vs:List V)(H:Hp)(Q:VK)(E:XK):Prop|mk(a:Addr)(M:%[|3])(U:Tk)(W:Ta)(_:vs=[.ref a])(_:%[|30])(_:∀(l:Addr)(H':Hp),A0B H H'->H l=none->AK H' l W.base->Q (.ref l) H')
def W0:=Au Sn ["self"] 1
theorem Ul(de:%[|5]):Fm P w K mg cK "base" BC 1 (OY cK):=by
 refine de.h65.ok W0 ?_;exists 19;refine#[_,AX (%[|63] (AI (Am Ay %[|13] Ad))),?_];obtain⟨p,gY,fK⟩:=EF h.lr h.ln;exact#[h.ob,de.TX.cl,de.TX.left,DF,SqL.of h.lf,gY,.inl (SqL.of (A0D _ _ fK)),λl hl=>q l _ (Ab hl _) hl A0A]
inductive Po(C:Addr)(vs:List V)(H:Hp)(Q:VK)(E:XK):Prop|mk(a:Addr)(M:%[|3])(U:Tk)(W:Ta)(_:vs=[.ref a])(_:%[|30])(_:∀(l:Addr)(H':Hp),A0B H H'->H l=none->AK H' l W.held->Q (.ref l) H')
def Wu:=Au UA ["self"] 1
theorem Ms(de:%[|5]):Fm P w K mg cK "held" BC 1 (Po cK):=by
 refine de.h64.ok Wu ?_;exists 19;refine#[_,AX (%[|63] (AI (Am Ay %[|13] (HJ EY Ad)))),?_];obtain⟨p,gY,fK⟩:=Dl h.lr h.ln;exact#[h.ob,de.TX.cl,de.TX.left,DF,_,rfl,SqL.of h.lf,gY,.inl (SqL.of (A0D _ _ fK)),λl hl=>q l _ (Ab hl _) hl A0A]
inductive KN(C:Addr)(vs:List V)(H:Hp)(Q:VK)(E:XK):Prop|mk(a:Addr)(M:%[|3])(U:Tk)(W:Ta)(_:vs=[.ref a])(_:%[|30])(_:∀(l:Addr)(H':Hp),A0B H H'->H l=none->AK H' l W.going->Q (.ref l) H')
def SN:=Au PY ["self"] 1
theorem Ru(de:%[|5]):Fm P w K mg cK "going" BC 2 (KN cK):=by
 refine de.h66.ok SN ?_;exists 19
 refine#[_,Aa (Aq (AM AH %[|13] Ae)
   (AX (B0 (pv 0) de.TX.cl (Ms de) hr Al))
   Ah)
  (AX (B0 (pv 0) de.TX.cl (Ul de) hr Al)),?_]
 unfold Ta.going at q;refine#[h.ob,de.TX.cl,de.TX.rule,Ob,rfl,?_];by_cases c:W.rule="elder"
 ·refine BL (by rw[c]) ?_;rw[if_pos c]at q;exact#[h.ob,Ox,a,M,U,W,rfl,h,q]
 ·refine Bz (λz=>c (by injection z)) ?_;rw[if_neg c]at q;exact#[h.ob,Vy,a,M,U,W,rfl,h,q]
inductive Ie(C:Addr)(vs:List V)(H:Hp)(Q:VK)(E:XK):Prop|mk(a:Addr)(M:%[|3])(U:Tk)(W:Ta)(_:vs=[.ref a])(_:%[|30])(_:∀(l:Addr)(H':Hp),A0B H H'->H l=none->H' l=some (.lst U.ges)->Q (.ref l) H')
def M4:=Au Jn ["self"] 1
theorem Lk(de:%[|5]):Fm P w K mg cK "entries" BC 1 (Ie cK):=by
 refine de.h83.ok M4 ?_;exists 19;refine#[_,AX (%[|63] (AI %[|13])),?_];exact#[h.ob,de.TX.cl,de.TX.given,Ea,.inl (SqL.of h.gv),λl hl=>q l _ (Ab hl _) hl A0A]
inductive Jf(C:Addr)(vs:List V)(H:Hp)(Q:VK)(E:XK):Prop|mk(a:Addr)(M:%[|3])(U:Tk)(W:Ta)(_:vs=[.ref a])(_:%[|30])(_:∀(H':Hp),A0B H H'->Q (.bl (!AO W.sides W.held)) H')
def Rj:=Au KJ ["self"] 1
theorem MX(de:%[|5]):Fm P w K mg cK "caught" BC 5 (Jf cK):=by
 refine de.h87.ok Rj ?_;exists 19;refine#[_,AX (HL (Ax (Qn de) hr Al (AN %[|13] (Am Ay %[|13] (HJ EY Ad))))),?_];obtain⟨p,gY,fK⟩:=Dl h.lr h.ln;have dj:=h.held_len;refine#[h.ob,de.TX.cl,de.TX.parts,MF,h.ob,de.TX.cl,de.TX.left,DF,_,rfl,SqL.of h.lf,gY,?_];exact#[U.pt,p,W.held,U.pxs,W.sides,rfl,SqL.of (A0D _ _ fK),by omega,A0D _ _ h.pt,h.sd.keep A0D,λs hs=>zCS (h.ws s hs).len %[|2],h.s9,λH1 s1=>q H1 s1]
inductive Oz(C:Addr)(vs:List V)(H:Hp)(Q:VK)(E:XK):Prop|mk(a:Addr)(M:%[|3])(U:Tk)(W:Ta)(_:vs=[.ref a])(_:%[|30])(_:Q (.bl W.ended) H)
def WR:=Au U4 ["self"] 1
theorem Li(de:%[|5]):Fm P w K mg cK "over" BC 1 (Oz cK):=by
 refine de.h54.ok WR ?_;exists 19;refine#[_,AX %[|13],?_];exact#[h.ob,de.TX.cl,de.TX.ended,HA,q]
end
def Cc(z:Str):Prop:=z="elder"\/z="newer"
instance(z:Str):Decidable (Cc z):=by unfold Cc;infer_instance
def Pr:List V:=[.str "elder",.str "newer"]
theorem UZ(z:Str):Oc (.str z) Pr=decide (Cc z):=by
 unfold Oc Pr Cc;simp only[zBW,List.any_nil,zCO]
 have e:∀y:Str,MM (.str y) (.str z)=decide (z=y):=λy=>by
  show (y == z)=decide (z=y);by_cases h:z=y
  ·subst h;simp
  ·rw[decide_eq_false h];exact beq_false_of_ne λq=>h q.symm
 rw[e,e,zA4];simp only[zBE,decide_eq_true_eq];exact decide_eq_true_iff.symm
def BX(many:Nat)(kind rule:Str)(t:Tr)(room:List Int):Ta:=#[many,kind,rule,t,room,[],[C1 room (AS kind t room)],false]
inductive OW(C cS cB cN:Addr)(vs:List V)(H:Hp)(Q:VK)(E:XK):Prop|mk(x dx rm:Addr)(many:Nat)(kind rule:Str)(v:V)(t:Tr)(room:List Int)(M:%[|3])(_:vs=[.ref x,.int many,.ref rm,.str kind,v,.str rule])(_:H x=some (.ins C dx []))(_:x∉M)(_:(∀m∈M,H m≠none))(_:t.At (A1 M H) v)(_:t.ok 5)(_:t.size<=23)(_:many<=5)(_:AK H rm room)(_:Wr room)(_:(¬t.ok many->∀H',But [x] H H'->E (.ref cS) none H'))(_:(t.ok many->¬(Cc rule/\BK kind)->∀H',But [x] H H'->E (.ref cB) none H'))(_:(t.ok many->Cc rule->BK kind->[]∈AS kind t room->∀H',But [x] H H'->E (.ref cN) none H'))(_:(t.ok many->Cc rule->BK kind->[]∉AS kind t room->∀(U:Tk)(H':Hp),But [x] H H'->H U.gv=none->H U.lf=none->H U.sp=none->U.sv=v->A0E (x::U.gv::U.lf::M) C H' x U (BX many kind rule t room)->Q .non H'))
theorem Bt(e:BY f v fs=fs')(b:But [x] H0 H):
  But [x] H0 (upd H x (.ins C dx (BY f v fs)))/\upd H x (.ins C dx (BY f v fs)) x=some (.ins C dx fs')/\But [x] H (upd H x (.ins C dx (BY f v fs))):=
 #[b.trans (But.upd %[|1]),A0A.trans (congrArg (λl=>some (HO.ins C dx l)) e),But.upd %[|1]]
theorem Bg{x b:Addr}(h:b≠x):b∉[x]:=by simpa using h
abbrev Ga(H:Hp)(x:Addr):List V->%[|25]->Prop:=Paired λ(v:V)(row:List Int)=>∃p,BV (v=.ref p) (p≠x) (AK H p row)
theorem Ed{H H':Hp}{x:Addr}{o:HO}(hx:H x=some o):∀{xs:List V}{rs:%[|25]},A0N H H' xs rs->Ga H' x xs rs
 |_,_,.nil=>.nil
 |_,_,.cons ⟨p,e,n,h⟩ q=>.cons #[p,e,(Ai hx n).symm,h] (Ed hx q)
theorem Gk{H H':Hp}{x:Addr}(b:But [x] H H'):∀{xs:List V}{rs:%[|25]},Ga H x xs rs->Ga H' x xs rs
 |_,_,.nil=>.nil
 |_,_,.cons ⟨p,e,n,h⟩ q=>.cons #[p,e,n,b.at h (Bg n)] (Gk b q)
theorem Fj{H H':Hp}{x:Addr}(b:A0B H H'):∀{xs:List V}{rs:%[|25]},Ga H x xs rs->Ga H' x xs rs
 |_,_,.nil=>.nil
 |_,_,.cons ⟨p,e,n,h⟩ q=>.cons #[p,e,n,b _ _ h] (Fj b q)
theorem HU{H H':Hp}{x:Addr}(b:But [x] H H'):∀{xs:List V}{rs:%[|25]},Ga H x xs rs->A0F H' xs rs
 |_,_,.nil=>.nil
 |_,_,.cons ⟨p,e,n,h⟩ q=>.cons #[p,e,b.at h (Bg n)] (HU b q)
theorem Lw{H0 H1 G:Hp}(k:∀p row,H0 p=none->AK H1 p row->AK G p row):∀{xs:List V}{rs:%[|25]},A0N H0 H1 xs rs->A0F G xs rs
 |_,_,.nil=>.nil
 |_,_,.cons ⟨p,e,n,h⟩ q=>.cons #[p,e,k p _ n h] (Lw k q)
section
variable {bz:Heap}{f:Addr}
def Vf:=Au TM ["self","many","room","kind","sentence","rule"] 6
theorem Mo(de:%[|5]):Fi P w K mg cK "Talk" (EI P w) 5 (OW cK cS cB cN):=by
 refine (fi de.kTalk de.h47).okX Vf ?_;rintro bz f dm A outer s H _ Q E hr ⟨x,dx,rm,many,kind,rule,v,t,room,M,rfl,hx,nxM,hM,ha,hok,hsz,dR,hrm,hwr,qS,qB,qN,q⟩;have nrx:rm≠x:=AV hrm hx %[|11];have haH:=ha.keep (TS.same A0D);have kt:∀{H1:Hp},But [x] H H1->TS H H1:=λb p xs e=>b.at e (Bg (AV e hx %[|11]))
 refine#[_,Aa (As (Ax (El de) hr %[|24] (AN (pv 4) (pv 1))))
  (Aa (Aq (Cp Fp (pv 5) (Bj (AN Ae Ae)) %[|32])
   (Ak (Br (Ex:=E) BI rfl de.X_BadWord.cls de.X_BadWord.at_ de.X_BadWord.ty %[|10] de.X_BadWord.m (AI Ae) (hvl:=λ_ _ _ h=>#[by decide,h])))
   Ah)
  (Aa (BD (pv 0) (pv 1) rfl)
  (Aa (BD (pv 0) (pv 3) rfl)
  (Aa (BD (pv 0) (pv 4) rfl)
  (Aa (BD (pv 0) (pv 5) rfl)
  (Aa (BD (pv 0) (%[|63] (AI (pv 2))) rfl)
  (Aa (BD (pv 0) (Ax (N0 de) hr %[|24] (Ag (pv 2) (AN (pv 3) (pv 4)))) rfl)
  (Aa (BD (pv 0) (Av Bi) rfl)
  (Aa (BD (pv 0) (Av (AI (Ax (P9 de) hr Al (AI %[|13])))) rfl)
  (Ak (BD (pv 0) BN rfl))))))))))),?_]
 refine#[v,t,many,rfl,haH,hok,by omega,λhn H1 s1=>qS hn H1 (Aj s1),λeV H1 s1=>?_];refine#[C4,λrt hrt=>?_];have s2:=s1.trans (Ab hrt (.tup [.str "elder",.str "newer"]));refine#[rt,Pr,rfl,.inr (SqT.of A0A),rfl,rfl,?_];show If (!Oc (.str rule) Pr) _ _;rw[UZ];generalize upd H1 rt _=H2 at*;by_cases f8:Cc rule
 rotate_left
 ·exact UW f8 (qB eV (λz=>f8 z.1) _ (Aj s2))
 refine Tj f8 ?_;have b2:But [x] H H2:=Aj s2;have x2:=s2 _ _ hx;refine#[x2,de.TX.cl,de.TX.many,%[|2],?_];obtain⟨b3,x3,_⟩:=Bt (C:=cK) (dx:=dx) (f:="many") (v:=.int many) (fs:=[]) (fs':=[%[|47]]) %[|32] b2;generalize upd H2 x _=H3 at*;refine#[x3,de.TX.cl,de.TX.kind,(by show 1<1000;decide),?_];obtain⟨b4,x4,_⟩:=Bt (C:=cK) (dx:=dx) (f:="kind") (v:=.str kind) (fs:=[%[|47]]) (fs':=[%[|47],%[|53]]) %[|32] b3;generalize upd H3 x _=H4 at*;refine#[x4,de.TX.cl,de.TX.sentence,(by show 2<1000;decide),?_];obtain⟨b5,x5,_⟩:=Bt (C:=cK) (dx:=dx) (f:="sentence") (v:=v) (fs:=[%[|47],%[|53]]) (fs':=[%[|47],%[|53],("sentence",v)]) %[|32] b4;generalize upd H4 x _=H5 at*;refine#[x5,de.TX.cl,de.TX.rule,(by show 3<1000;decide),?_];obtain⟨b6,x6,_⟩:=Bt (C:=cK) (dx:=dx) (f:="rule") (v:=.str rule) (fs:=[%[|47],%[|53],("sentence",v)]) (fs':=[%[|47],%[|53],("sentence",v),("rule",.str rule)]) %[|32] b5;generalize upd H5 x _=H6 at*;have rm6:=b6.at hrm (Bg nrx);refine#[.inl (SqL.of rm6),λsp fB=>?_];have s7:=Ab fB (.lst (room.map V.int));have b7:But [x] H (upd H6 sp (.lst (room.map V.int))):=b6.trans (Aj s7);have x7:=s7 _ _ x6;have sp7:AK (upd H6 sp (.lst (room.map V.int))) sp room:=A0A;have kD:sp≠x:=(Ai x6 fB).symm
 have jS:H sp=none:=by
  cases e:H sp with
  |none=>rfl
  |some o=>rw[b6.at e (Bg kD)]at fB;cases fB
 generalize upd H6 sp _=H7 at*;refine#[x7,de.TX.cl,de.TX.space,(by show 4<1000;decide),?_];obtain⟨b8,x8,c8⟩:=Bt (C:=cK) (dx:=dx) (f:="space") (v:=.ref sp) (fs:=[%[|47],%[|53],("sentence",v),("rule",.str rule)]) (fs':=[%[|47],%[|53],("sentence",v),("rule",.str rule),%[|44]]) %[|32] b7;generalize upd H7 x _=H8 at*;have sp8:=c8.at sp7 (Bg kD);have rm8:=b8.at hrm (Bg nrx);refine#[rm,kind,v,t,room,rfl,haH.keep (kt b8),hok,by omega,SqL.of rm8,hwr,λhk H9 s9=>qB eV (λz=>hk z.2) _ (b8.trans (Aj s9)),λhk kA H9 s9=>qN eV f8 hk kA _ (b8.trans (Aj s9)),λhk kA pt pxs H9 s9 pt0 pt9 hR9 hne9=>?_];have b9:But [x] H H9:=b8.trans (Aj s9);have x9:=s9 _ _ x8;have npx:pt≠x:=(Ai x8 pt0).symm;refine#[x9,de.TX.cl,de.TX.parts,(by show 5<1000;decide),?_];obtain⟨b10,x10,c10⟩:=Bt (C:=cK) (dx:=dx) (f:="parts") (v:=.ref pt) (fs:=[%[|47],%[|53],("sentence",v),("rule",.str rule),%[|44]]) (fs':=[%[|47],%[|53],("sentence",v),("rule",.str rule),%[|44],("parts",.ref pt)]) %[|32] b9;have e10:A1 [x] (upd H9 x (.ins cK dx (BY "parts" (.ref pt) [%[|47],%[|53],("sentence",v),("rule",.str rule),%[|44]])))=A1 [x] H9:=BA %[|1];generalize upd H9 x _=fV at*;have pt10:=c10.at pt9 (Bg npx);have sp10:=c10.at (s9 _ _ sp8) (Bg kD);have R10:A0F fV pxs (AS kind t room):=HU c10 (Ed x8 hR9);refine#[GD,λgv iM=>?_];have iO:=Ab iM %[|9];have ip:But [x] H (upd fV gv %[|9]):=b10.trans (Aj iO);have gv11:upd fV gv %[|9] gv=some %[|9]:=A0A;have jy:=iO _ _ x10;have ngx:gv≠x:=(Ai x10 iM).symm;generalize upd fV gv _=gm at*;refine#[jy,de.TX.cl,de.TX.given,(by show 6<1000;decide),?_];obtain⟨b12,x12,c12⟩:=Bt (C:=cK) (dx:=dx) (f:="given") (v:=.ref gv) (fs:=[%[|47],%[|53],("sentence",v),("rule",.str rule),%[|44],("parts",.ref pt)]) (fs':=[%[|47],%[|53],("sentence",v),("rule",.str rule),%[|44],("parts",.ref pt),("given",.ref gv)]) %[|32] ip;generalize upd gm x _=i8 at*;have gv12:=c12.at gv11 (Bg ngx);have pt12:=c12.at (iO _ _ pt10) (Bg npx);have sp12:=c12.at (iO _ _ sp10) (Bg kD)
 have R12:A0F i8 pxs (AS kind t room):=HU c12 (Fj iO (Gk c10 (Ed x8 hR9)))
 have dG:E2 (AS kind t room)<64:=by
  have:=ND (z:=kind) (t:=t) (row:=room);have:=hwr.len;omega
 refine#[x12,de.TX.cl,de.TX.parts,%[|32],pt,pxs,_,rfl,SqL.of pt12,R12,dG,λbl jt ns fj jT hp hm hbl=>#[OP,λlf gk=>?_]];have en:=Sf hwr (λs hs=>F7 hs) hp hm;subst en;have fv:=fj.trans (Ab gk (.lst [.ref bl]));have bl14:=Ab gk (.lst [.ref bl]) _ _ hbl;have lf14:upd jt lf (.lst [.ref bl]) lf=some (.lst [.ref bl]):=A0A;have ia:i8 lf=none:=fj.free gk;generalize upd jt lf _=fk at*;have x14:=fv _ _ x12;have b14:But [x] H fk:=b12.trans (Aj fv);have nlx:lf≠x:=(Ai x12 ia).symm;have nbx:bl≠x:=(Ai x12 jT).symm;refine#[x14,de.TX.cl,de.TX.left,(by show 7<1000;decide),?_];obtain⟨b15,x15,c15⟩:=Bt (C:=cK) (dx:=dx) (f:="left") (v:=.ref lf) (fs:=[%[|47],%[|53],("sentence",v),("rule",.str rule),%[|44],("parts",.ref pt),("given",.ref gv)]) (fs':=[%[|47],%[|53],("sentence",v),("rule",.str rule),%[|44],("parts",.ref pt),("given",.ref gv),("left",.ref lf)]) %[|32] b14;generalize upd fk x _=H15 at*;refine#[x15,de.TX.cl,de.TX.ended,(by show 8<1000;decide),?_];obtain⟨b16,x16,c16⟩:=Bt (C:=cK) (dx:=dx) (f:="ended") (v:=.bl false) (fs:=[%[|47],%[|53],("sentence",v),("rule",.str rule),%[|44],("parts",.ref pt),("given",.ref gv),("left",.ref lf)]) (fs':=[%[|47],%[|53],("sentence",v),("rule",.str rule),%[|44],("parts",.ref pt),("given",.ref gv),("left",.ref lf),("ended",.bl false)]) %[|32] b15;generalize upd H15 x _=H16 at*;have jU:But [x] fk H16:=c15.trans c16;have gv16:=jU.at (fv _ _ gv12) (Bg ngx);have lf16:=jU.at lf14 (Bg nlx);have bl16:=jU.at bl14 (Bg nbx);have pt16:=jU.at (fv _ _ pt12) (Bg npx);have sp16:=jU.at (fv _ _ sp12) (Bg kD);have ngl:gv≠lf:=Ai gv12 ia
 have gv0:H gv=none:=by
  cases e:H gv with
  |none=>rfl
  |some o=>rw[b10.at e (Bg ngx)]at iM;cases iM
 have lf0:H lf=none:=by
  cases e:H lf with
  |none=>rfl
  |some o=>rw[b12.at e (Bg nlx)]at ia;cases ia
 have pt0':H pt=none:=by
  cases e:H pt with
  |none=>rfl
  |some o=>rw[b8.at e (Bg npx)]at pt0;cases pt0
 have bl0:H bl=none:=by
  cases e:H bl with
  |none=>rfl
  |some o=>rw[b12.at e (Bg nbx)]at jT;cases jT
 have nM:∀{b:Addr},H b=none->b∉M:=λe z=>hM _ z e
 have n3:∀{b:Addr},b≠x->b≠gv->b≠lf->H b=none->b∉x::gv::lf::M:=λe1 e2 e3 e4 z=>by
  rcases List.mem_cons.mp z with q1|q1
  ·exact e1 q1
  ·rcases List.mem_cons.mp q1 with q2|q2
   ·exact e2 q2
   ·rcases List.mem_cons.mp q2 with q3|q3
    ·exact e3 q3
    ·exact nM e4 q3
 have nsg:sp≠gv:=Ai sp10 iM;have nsl:sp≠lf:=Ai sp12 ia;have npg:pt≠gv:=Ai pt10 iM;have npl:pt≠lf:=Ai pt12 ia;have nbg:bl≠gv:=(Ai gv12 jT).symm;have nbl:bl≠lf:=Ai hbl gk
 have hR16:A0F (A1 (x::gv::lf::M) H16) pxs (AS kind t room):=Lw (λp row h1 h2=>by
  have kE:p≠x:=(Ai x8 h1).symm
  have p10:=c10.at h2 (Bg kE)
  have p0:H p=none:=by
   cases e:H p with
   |none=>rfl
   |some o=>rw[b8.at e (Bg kE)]at h1;cases h1
  have p12:=c12.at (iO _ _ p10) (Bg kE)
  exact AW (jU.at (fv _ _ p12) (Bg kE)) (n3 kE (Ai p10 iM) (Ai p12 ia) p0)) hR9
 refine q eV f8 hk kA #[dx,sp,pt,gv,lf,v,pxs,[],[.ref bl]] H16 b16 gv0 lf0 jS rfl #[x16,gv16,lf16,by simp,by simp,by simp,ngl,AW sp16 (n3 kD nsg nsl jS),?_,AW pt16 (n3 npx npg npl pt0'),hR16,.nil,.cons #[bl,rfl,AW bl16 (n3 nbx nbg nbl bl0)] .nil,hwr,λl hl=>?_,zC9 _ _,by show 1<=900;decide,by show 0<=900;decide,eV,dR,hsz,hk,kA,f8]
 ·refine ha.keep λp xs e=>?_
  obtain⟨e1,e2⟩:=Bc e;have kE:p≠x:=AV e1 hx %[|11];refine AW (b16.at e1 (Bg kE)) λz=>?_
  rcases List.mem_cons.mp z with q1|q1
  ·exact kE q1
  ·rcases List.mem_cons.mp q1 with q2|q2
   ·rw[q2,gv0]at e1;cases e1
   ·rcases List.mem_cons.mp q2 with q3|q3
    ·rw[q3,lf0]at e1;cases e1
    ·exact e2 q3
 ·rw[List.mem_singleton.mp hl];exact U3
end
theorem CT(hx:H x=none)(hd:H dx=none)(ne:dx≠x)(b:But [x] (upd (upd H dx (.own x)) x (.ins C dx [])) H'):A0B H H':=by
 refine But.same (M:=[x]) (λm hm=>by rw[List.mem_singleton.mp hm];exact hx) ?_ b;have s1:=Ab hd (.own x);exact s1.trans (Ab (by rw[Af ne.symm];exact hx) _)
theorem Ce{H:Hp}{x dx C b:Addr}{o:HO}(h:upd (upd H dx (.own x)) x o b=none):H b=none/\b≠x/\b≠dx:=by
 by_cases e:b=x
 ·rw[e,A0A]at h;cases h
 ·rw[Af e]at h;by_cases e2:b=dx
  ·rw[e2,A0A]at h;cases h
  ·rw[Af e2]at h;exact#[h,e,e2]
theorem CW:Cy (EI P w) X E0:=λ_ _ _ _ _ _ _ h=>by
 obtain⟨_,_,_,_,_,_,_,_,_,_,_,_,_,_,_,q⟩:=h;exact q.elim
section
variable {X:Cx}
end
def Cs(W:Ta)(seen:List Int)(t:Tr):Str:=if W.ended=true then Bu seen (%[|15] W.room)else CO W.sides W.going seen (%[|15] W.room)
theorem A0E.two(h:%[|30]):W.sides.length<=2:=by
 unfold Ta.sides;rcases Jr (z:=W.kind) (t:=W.t) (row:=W.room)with⟨x,e⟩|⟨x,y,e⟩<;>rw[e]<;>simp
theorem Pc(h:Wr room):Wr (AG b t room):=h.sub zAM
inductive RL(K:PySem.W.Frag)(C cS:Addr)(vs:List V)(H:Hp)(Q:VK)(E:XK):Prop|mk(a sn:Addr)(v:V)(M:%[|3])(U:Tk)(W:Ta)(t:Tr)(seen:List Int)(_:vs=[.ref a,v,.ref sn])(_:%[|30])(_:t.At H v)(_:t.ok 5)(_:t.size<=60)(_:SqL K H sn (seen.map V.int))(_:Wr seen)(_:seen≠[])(_:(¬t.ok W.many->∀H',A0B H H'->E (.ref cS) none H'))(_:(t.ok W.many->∀H',A0B H H'->Q (.str (Cs W seen t)) H'))
section
def scTAsk:=Au Xe ["self","sentence","seen","worlds"] 3
theorem OJ(de:%[|5]):Fm P w K mg cK "ask" (EI P w) 6 (RL K cK cS):=by
 refine de.h67.okX scTAsk ?_;rintro bz f dm A outer s H _ Q E hr ⟨a,sn,v,M,U,W,t,seen,rfl,hT,ha,eW,hsz,hN,wN,nne,qE,q⟩
 refine#[_,Aa (As (Ax (El de) hr %[|24] (AN (pv 1) %[|13])))
  (Aa (AC 3 scTAsk.nd (Ax (CI de) hr Al (AN (pv 1) %[|13])))
  (Aa (Aq (B6 %[|13] (λ_=>rfl))
   (AX (Ax (Fe de) hr Al (AN (pv 2) (pv 3))))
   Ah)
  (AX (Ax (QF de) hr Al (Ag %[|13] (Ag (B0 (pv 0) de.TX.cl (Ru de) hr Al) (AN (pv 2) (pv 3)))))))),?_]
 refine#[hT.ob,de.TX.cl,de.TX.many,Px,v,t,W.many,rfl,ha,eW,hsz,qE,λeV H1 s1=>?_];have q:=q eV;have T1:=hT.keep s1;refine#[T1.ob,de.TX.cl,de.TX.space,G6,v,t,U.sp,W.room,rfl,ha.keep (TS.same s1),eW,by omega,SqL.of (A0D _ _ T1.room),hT.wr,λwl H2 s2 jQ fM=>?_];have T2:=T1.keep s2;have t2:=s1.trans s2;have fM:AK H2 wl (%[|15] W.room):=fM;have wwl:Wr (%[|15] W.room):=Pc hT.wr;refine#[T2.ob,de.TX.cl,de.TX.ended,HA,_,rfl,?_];unfold Cs at q
 cases he:W.ended with
 |true=>
  refine AD ?_;rw[he,if_pos rfl]at q;exact#[sn,wl,seen,_,rfl,t2.seq hN,wN,nne,SqL.of fM,wwl,λH3 s3=>q _ (t2.trans s3)]
 |false=>
  refine Aw ?_;rw[he,if_neg zAG]at q;refine#[T2.ob,de.TX.cl,de.TX.parts,MF,T2.ob,Uy,a,M,U,W,rfl,T2,λgl H3 s3 hgl0 jV=>?_];have T3:=T2.keep s3;have t3:=t2.trans s3;exact#[U.pt,gl,sn,wl,U.pxs,W.sides,W.going,seen,_,rfl,A0D _ _ T3.pt,T3.sd.keep A0D,T3.ws,T3.two,SqL.of jV,T3.going_wr,t3.seq hN,wN,nne,SqL.of (s3 _ _ fM),wwl,λH4 s4=>q _ (t3.trans s4)]
end
inductive IM(C cO:Addr)(vs:List V)(H:Hp)(Q:VK)(E:XK):Prop|mk(a:Addr)(M:%[|3])(U:Tk)(W:Ta)(_:vs=[.ref a])(_:%[|30])(_:(W.ended=true->E (.ref cO) none H))(_:(W.ended=false->Q .non H))
section
def QQ:=Au L5 ["talk"] 1
theorem E7(de:%[|5]):%[|8] "refuse_over" (EI P w) 2 (IM cK cO):=by
 refine de.h55.okX QQ ?_;rintro bz f dm A outer s H _ Q E hr ⟨a,M,U,W,rfl,hT,qE,q⟩
 refine#[_,Ak (Aq (Bv (B0 (pv 0) de.TX.cl (Li de) hr Al))
   (Ak (Br (Ex:=E) BI rfl de.X_TalkOver.cls de.X_TalkOver.at_ de.X_TalkOver.ty %[|10] de.X_TalkOver.m (AI Ae) (hvl:=λ_ _ _ h=>#[by decide,h])))
   Ah),?_]
 refine#[hT.ob,N6,a,M,U,W,rfl,hT,?_]
 cases he:W.ended with
 |true=>exact AD (qE he)
 |false=>exact Aw (q he)
end
def GA(W:Ta)(v:V)(t:Tr)(word:Str):Ta:={W with ents:=W.ents++[(v,t,word)],lefts:=W.lefts++[C5 word W.held (%[|15] W.room)]}
theorem A0K.snoc{H:Hp}{v:V}{e:V×Tr×Str}(h:∃p,BV (v=.ref p) (H p=some (.tup [e.1,.str e.2.2])) (e.2.1.At H e.1)):∀{xs:List V}{es:List (V×Tr×Str)},A0K H xs es->A0K H (xs++[v]) (es++[e])
 |_,_,.nil=>.cons h .nil
 |_,_,.cons x q=>.cons x (A0K.snoc h q)
theorem A0K.len(h:A0K H xs es):xs.length=es.length:=zBV h
theorem Gg{H:Hp}{v:V}{row:List Int}(h:∃p,v=.ref p/\AK H p row):∀{xs:List V}{rs:%[|25]},A0F H xs rs->A0F H (xs++[v]) (rs++[row])
 |_,_,.nil=>.cons h .nil
 |_,_,.cons x q=>.cons x (Gg h q)
theorem TZ(z:Str)(g r:List Int):(C5 z g r).Sublist g:=by
 unfold C5 N2 EV;split
 ·exact zAM
 ·split
  ·exact zAM
  ·exact zB3 _
section
variable {M:%[|3]}{C:Addr}{H H':Hp}{a:Addr}{U:Tk}{W:Ta}
theorem A0E.a_gv(h:%[|30]):a≠U.gv:=AV h.ob h.gv %[|11]
theorem A0E.a_lf(h:%[|30]):a≠U.lf:=AV h.ob h.lf %[|11]
theorem A0E.gave(h:%[|30])(hp:A1 M H p=some (.tup [v,.str word]))(ha:t.At (A1 M H) v)(hl:W.ents.length<900):
  A0E M C (upd H U.gv (.lst (U.ges++[.ref p]))) a {U with ges:=U.ges++[.ref p]} {W with ents:=W.ents++[(v,t,word)]}:=by
 have e:=BA (H:=H) (o:=.lst (U.ges++[.ref p])) h.mg;refine#[by rw[Af h.a_gv];exact h.ob,A0A,by rw[Af h.ne.symm];exact h.lf,h.ma,h.mg,h.ml,h.ne,?_,?_,?_,?_,?_,?_,h.wr,h.wl,h.ln,h.l9,?_,h.tok,h.m5,h.tsz,h.kd,h.ns,h.rl]
 ·show AK (A1 M (upd H U.gv _)) _ _;rw[e];exact h.room
 ·show Tr.At (A1 M (upd H U.gv _)) _ _;rw[e];exact h.tr
 ·show A1 M (upd H U.gv _) _=_;rw[e];exact h.pt
 ·show A0F (A1 M (upd H U.gv _)) _ _;rw[e];exact h.sd
 ·show A0K (A1 M (upd H U.gv _)) _ _;rw[e];exact h.en.snoc #[p,rfl,hp,ha]
 ·show A0F (A1 M (upd H U.gv _)) _ _;rw[e];exact h.lr
 ·show (W.ents++[(v,t,word)]).length<=900;rw[zA];exact hl
theorem A0E.gone(h:%[|30])(hp:AK (A1 M H) l row)(hs:row.Sublist W.room)(hl:W.lefts.length<900):
  A0E M C (upd H U.lf (.lst (U.lfs++[.ref l]))) a {U with lfs:=U.lfs++[.ref l]} {W with lefts:=W.lefts++[row]}:=by
 have e:=BA (H:=H) (o:=.lst (U.lfs++[.ref l])) h.ml;refine#[by rw[Af h.a_lf];exact h.ob,by rw[Af h.ne];exact h.gv,A0A,h.ma,h.mg,h.ml,h.ne,?_,?_,?_,?_,?_,?_,h.wr,?_,?_,?_,h.e9,h.tok,h.m5,h.tsz,h.kd,h.ns,h.rl]
 ·show AK (A1 M (upd H U.lf _)) _ _;rw[e];exact h.room
 ·show Tr.At (A1 M (upd H U.lf _)) _ _;rw[e];exact h.tr
 ·show A1 M (upd H U.lf _) _=_;rw[e];exact h.pt
 ·show A0F (A1 M (upd H U.lf _)) _ _;rw[e];exact h.sd
 ·show A0K (A1 M (upd H U.lf _)) _ _;rw[e];exact h.en
 ·show A0F (A1 M (upd H U.lf _)) _ _;rw[e];exact Gg #[l,rfl,hp] h.lr
 ·intro x hx;rcases List.mem_append.mp hx with z|z
  ·exact h.wl x z
  ·rw[List.mem_singleton.mp z];exact hs
 ·show W.lefts++[row]≠[];simp
 ·show (W.lefts++[row]).length<=900;rw[zA];exact hl
end
inductive U0(K:PySem.W.Frag)(C cS cO:Addr)(vs:List V)(H:Hp)(Q:VK)(E:XK):Prop|mk(a sn:Addr)(v:V)(M:%[|3])(U:Tk)(W:Ta)(t:Tr)(seen:List Int)(_:vs=[.ref a,v,.ref sn])(_:%[|30])(_:(∀m∈M,H m≠none))(_:t.At (A1 M H) v)(_:t.ok 5)(_:t.size<=60)(_:SqL K H sn (seen.map V.int))(_:Wr seen)(_:seen≠[])(_:W.ents.length<900)(_:W.lefts.length<900)(_:(W.ended=true->∀H',A0B H H'->E (.ref cO) none H'))(_:(W.ended=false->¬t.ok W.many->∀H',A0B H H'->E (.ref cS) none H'))(_:(W.ended=false->t.ok W.many->∀(U':Tk)(H':Hp),But [U.gv,U.lf] H H'->U'.gv=U.gv->U'.lf=U.lf->(∀b,H b≠none->H' b≠none)->A0E M C H' a U' (GA W v t (Cs W seen t))->Q (.str (Cs W seen t)) H'))
section
def scTSay:=Au Xg ["self","sentence","seen","word"] 3
theorem WO(de:%[|5]):Fm P w K mg cK "say" (EI P w) 7 (U0 K cK cS cO):=by
 refine de.h68.okX scTSay ?_;rintro bz f dm A outer s H _ Q E hr ⟨a,sn,v,M,U,W,t,seen,rfl,hT,hM,ha,eW,hsz,hN,wN,nne,le,ll,qO,qS,q⟩
 refine#[_,Aa (As (Ax (E7 de) hr %[|24] (AI (pv 0))))
  (Aa (AC 3 scTSay.nd (By (pv 0) de.TX.cl (OJ de) hr %[|24] (AN (pv 1) (pv 2))))
  (Aa (As (A7 %[|13] (AI (Bj (AN (pv 1) (pv 3))))))
  (Aa (As (A7 %[|13] (AI (Ax (IR de) hr Al (Ag (pv 3) (AN (Am Ay %[|13] (HJ EY Ad)) (Ax (CI de) hr Al (AN (pv 1) %[|13]))))))))
  (AX (pv 3))))),?_]
 refine#[a,M,U,W,rfl,hT,λhe=>qO he _ (A0B.refl _),λhe=>?_];have haH:=ha.keep (TS.same A0D);refine#[hT.ob,SV,a,sn,v,M,U,W,t,seen,rfl,hT,haH,eW,hsz,hN,wN,nne,λhn H' s'=>qS he hn H' s',λeV H2 s2=>?_];have q:=q he eV;generalize Cs W seen t=word at*;have T2:=hT.keep s2;refine#[T2.ob,de.TX.cl,de.TX.given,Ea,.inl #[rfl,_,SqL.of T2.gv],C4,λp hp=>?_];have s3:=Ab hp (.tup [v,.str word]);have p3:upd H2 p (.tup [v,.str word]) p=some (.tup [v,.str word]):=A0A;have T3:=T2.keep s3;have p0:H p=none:=s2.free hp;have pM:p∉M:=λz=>hM p z p0
 have t3:=s2.trans s3;generalize upd H2 p _=H3 at*;have jV:U.ges.length=W.ents.length:=T3.en.len;refine#[T3.gv,An %[|0],?_];have T4:=T3.gave (AW p3 pM) (ha.keep (TS.same (Aj t3))) le;have b4:But [U.gv,U.lf] H (upd H3 U.gv (.lst (U.ges++[.ref p]))):=A0B.trans (Aj t3) (But.upd %[|1])
 have k4:∀b,H3 b≠none->upd H3 U.gv (.lst (U.ges++[.ref p])) b≠none:=λb hb=>by
  by_cases c:b=U.gv
  ·rw[c,A0A];exactλz=>by cases z
  ·rw[Af c];exact hb
 have ts4:TS H3 (upd H3 U.gv (.lst (U.ges++[.ref p]))):=TS.lst T3.gv;generalize upd H3 U.gv _=H4 at*;have lf4:H4 U.lf=some (.lst U.lfs):=T4.lf;obtain⟨hl,eC,dG⟩:=Dl T4.lr T4.ln;refine#[T4.ob,de.TX.cl,de.TX.left,DF,.inl #[rfl,_,SqL.of lf4],?_];refine#[T4.ob,de.TX.cl,de.TX.left,DF,_,rfl,SqL.of lf4,eC,?_];refine#[T4.ob,de.TX.cl,de.TX.space,G6,v,t,U.sp,W.room,rfl,(haH.keep (TS.same t3)).keep ts4,eW,by omega,SqL.of (A0D _ _ T4.room),hT.wr,λwl H5 s5 jQ fM=>?_];have T5:=T4.keep s5;have fM:AK H5 wl (%[|15] W.room):=fM;have wwl:Wr (%[|15] W.room):=Pc hT.wr;have lwl:=wwl.len;refine#[word,hl,wl,W.held,_,rfl,SqL.of (s5 _ _ (A0D _ _ dG)),hT.held_wr,SqL.of fM,by omega,λl H6 s6 gK hl6=>?_];have T6:=T5.keep s6;have hll:U.lfs.length=W.lefts.length:=T6.lr.len;refine#[T6.lf,An (show U.lfs.length<=1000 by omega),?_];have l4:H4 l=none:=s5.free gK
 have lM:l∉M:=λz=>by
  have h3:H3 l≠none:=λz3=>hM l z (t3.free z3)
  exact k4 l h3 l4
 have T7:=T6.gone (AW hl6 lM) ((TZ _ _ _).trans (hT.wl _ hT.held_in)) ll;have b7:But [U.gv,U.lf] H (upd H6 U.lf (.lst (U.lfs++[.ref l]))):=A0B.trans b4 (A0B.trans (Aj (s5.trans s6)) (But.upd %[|1]))
 have k7:∀b,H b≠none->upd H6 U.lf (.lst (U.lfs++[.ref l])) b≠none:=λb hb=>by
  by_cases c:b=U.lf
  ·rw[c,A0A];exactλz=>by cases z
  ·rw[Af c];have h3:H3 b≠none:=λz3=>hb (t3.free z3)
   exactλz6=>k4 b h3 ((s5.trans s6).free z6)
 refine ?_;exact q {U with ges:=U.ges++[.ref p],lfs:=U.lfs++[.ref l]} _ b7 rfl rfl k7 T7
end
theorem A0K.last{H:Hp}:∀{xs:List V}{es:List (V×Tr×Str)},A0K H xs es->es≠[]->Fb λys p e=>Il (xs=ys++[.ref p]) (A0K H ys es.dropLast) (es.getLast? = some e) (H p=some (.tup [e.1,.str e.2.2])) (e.2.1.At H e.1)
 |_,_,.nil,ne=>absurd rfl ne
 |[_],[e],.cons ⟨p,rfl,hp,ha⟩ .nil,_=>#[[],p,e,rfl,.nil,rfl,hp,ha]
 |x::_::_,_::_::_,.cons hx (.cons h2 q),_=>by
  obtain⟨ys,p,e,e1,h1,h3,h4,h5⟩:=A0K.last (.cons h2 q) (zC9 _ _);exact#[x::ys,p,e,by rw[e1];rfl,.cons hx h1,by rw[List.getLast?_cons_cons];exact h3,h4,h5]
section
variable {M N:%[|3]}{C:Addr}{H H':Hp}{a:Addr}{U:Tk}{W:Ta}
theorem A0E.cutmore(h:%[|30])(s:A0B H H')(hn:∀n∈N,H n=none):A0E (N++M) C H' a U W:=by
 have k:A0B (A1 M H) (A1 (N++M) H'):=λp u e=>by
  obtain⟨e1,e2⟩:=Bc e;refine AW (s _ _ e1) λz=>?_
  rcases List.mem_append.mp z with q|q
  ·rw[hn p q]at e1;cases e1
  ·exact e2 q
 exact#[s _ _ h.ob,s _ _ h.gv,s _ _ h.lf,zAE _ h.ma,zAE _ h.mg,zAE _ h.ml,h.ne,k _ _ h.room,h.tr.keep (TS.same k),k _ _ h.pt,h.sd.keep k,h.en.keep k,h.lr.keep k,h.wr,h.wl,h.ln,h.l9,h.e9,h.tok,h.m5,h.tsz,h.kd,h.ns,h.rl]
def DB(W:Ta):Ta:={W with ents:=W.ents.dropLast,lefts:=W.lefts.dropLast}
theorem A0E.backed(h:%[|30])(hb:But [U.gv,U.lf] H H')(h1:H' U.gv=some (.lst gs))(h2:H' U.lf=some (.lst ls))(he:A0K (A1 M H) gs W.ents.dropLast)(hl:A0F (A1 M H) ls W.lefts.dropLast)(hn:W.lefts.dropLast≠[]):
  A0E M C H' a {U with ges:=gs,lfs:=ls} (DB W):=by
 have k:A0B (A1 M H) (A1 M H'):=But.wide (λm hm=>by
  simp only[zAD,zAB,or_false]at hm
  rcases hm with rfl|rfl
  ·exact h.mg
  ·exact h.ml) hb
 have ob:=hb.at h.ob (by
  simp only[zAD,zAB,or_false,not_or]
  exact#[h.a_gv,h.a_lf])
 exact#[ob,h1,h2,h.ma,h.mg,h.ml,h.ne,k _ _ h.room,h.tr.keep (TS.same k),k _ _ h.pt,h.sd.keep k,he.keep k,hl.keep k,h.wr,λl hl=>h.wl l (List.dropLast_subset _ hl),hn,by
  show W.lefts.dropLast.length<=900
  rw[zBR]
  have:=h.l9
  omega,by
  show W.ents.dropLast.length<=900
  rw[zBR]
  have:=h.e9
  omega,h.tok,h.m5,h.tsz,h.kd,h.ns,h.rl]
end
inductive Og(C cO cG:Addr)(vs:List V)(H:Hp)(Q:VK)(E:XK):Prop|mk(a:Addr)(M:%[|3])(U:Tk)(W:Ta)(_:vs=[.ref a])(_:%[|30])(_:W.lefts.length=W.ents.length+1)(_:(W.ended=true->E (.ref cO) none H))(_:(W.ended=false->W.ents=[]->E (.ref cG) none H))(_:(W.ended=false->W.ents≠[]->∀(p:Addr)(e:V×Tr×Str)(U':Tk)(H':Hp),But [U.gv,U.lf] H H'->U'.gv=U.gv->U'.lf=U.lf->(∀b,H b≠none->H' b≠none)->W.ents.getLast? = some e->A1 M H p=some (.tup [e.1,.str e.2.2])->e.2.1.At (A1 M H) e.1->A0E M C H' a U' (DB W)->Q (.ref p) H'))
section
def V2:=Au Sj ["self"] 1
theorem UQ(de:%[|5]):Fm P w K mg cK "back" (EI P w) 3 (Og cK cO cG):=by
 refine de.h71.okX V2 ?_;rintro bz f dm A outer s H _ Q E hr ⟨a,M,U,W,rfl,hT,dj,qO,qG,q⟩
 refine#[_,Aa (As (Ax (E7 de) hr %[|24] (AI (pv 0))))
  (Aa (Aq (Ct (B6 %[|13] (λ_=>rfl)))
   (Ak (Br (Ex:=E) BI rfl de.X_NothingSaid.cls de.X_NothingSaid.at_ de.X_NothingSaid.ty %[|10] de.X_NothingSaid.m (AI Ae) (hvl:=λ_ _ _ h=>#[by decide,h])))
   Ah)
  (Aa (As (Cn %[|13]))
  (AX (Cn %[|13])))),?_]
 refine#[a,M,U,W,rfl,hT,qO,λhe=>?_];refine#[hT.ob,de.TX.cl,de.TX.given,Ea,_,.inl #[U.ges,SqL.of hT.gv,rfl],?_];by_cases hE:W.ents=[]
 ·have ge:U.ges=[]:=Lb (hE ▸ hT.en);rw[ge];exact AD (qG he hE)
 obtain⟨gs,p,e,eg,hE2,gH,hp,hpa⟩:=A0K.last hT.en hE;obtain⟨ls,l,el,hL2,hl⟩:=Eu hT.lr hT.ln;have nemp:(!(!U.ges.isEmpty))=false:=by rw[eg];simp
 rw[nemp];refine Aw ?_;have gk:=hT.lf;rw[el]at gk;refine#[hT.ob,de.TX.cl,de.TX.left,DF,.inl #[rfl,_,SqL.of gk],gk,CD _ _,?_];have nag:=hT.a_gv;have nal:=hT.a_lf;have ob1:upd H U.lf (.lst (ls++[V.ref l]).dropLast) a=some (.ins cK U.dx (Df U W)):=by rw[Af nal];exact hT.ob
 have gv1:upd H U.lf (.lst (ls++[V.ref l]).dropLast) U.gv=some (.lst (gs++[.ref p])):=by rw[Af hT.ne,hT.gv,eg]
 refine#[ob1,de.TX.cl,de.TX.given,Ea,.inl #[rfl,_,SqL.of gv1],gv1,CD _ _,?_];have b2:But [U.gv,U.lf] H (upd (upd H U.lf (.lst (ls++[V.ref l]).dropLast)) U.gv (.lst (gs++[V.ref p]).dropLast)):=A0B.trans (But.upd %[|1]) (But.upd %[|1]);have lg:W.ents.length≠0:=λz=>hE (List.length_eq_zero_iff.mp z)
 have ldl:W.lefts.dropLast≠[]:=λz=>by
  have:=congrArg List.length z;rw[zBR,dj]at this;have h0:W.ents.length+1-1=0:=this;omega
 refine q he hE p e {U with ges:=gs,lfs:=ls} _ b2 rfl rfl (λb hb=>?_) gH hp hpa (hT.backed b2 ?_ ?_ hE2 hL2 ldl)
 ·by_cases c1:b=U.gv
  ·rw[c1,A0A];exactλz=>by cases z
  ·rw[Af c1];by_cases c2:b=U.lf
   ·rw[c2,A0A];exactλz=>by cases z
   ·rw[Af c2];exact hb
 ·rw[A0A,zAY]
 ·rw[Af hT.ne.symm,A0A,zAY]
end
def GY(W:Ta):Ta:={W with ended:=true}
inductive Uj(C cO:Addr)(vs:List V)(H:Hp)(Q:VK)(E:XK):Prop|mk(a:Addr)(M:%[|3])(U:Tk)(W:Ta)(_:vs=[.ref a])(_:%[|30])(_:(W.ended=true->E (.ref cO) none H))(_:(W.ended=false->∀(H':Hp),But [a] H H'->A0E M C H' a U (GY W)->Q .non H'))
section
def Yb:=Au XU ["self"] 1
theorem Vg(de:%[|5]):Fm P w K mg cK "end" (EI P w) 3 (Uj cK cO):=by
 refine de.h73.okX Yb ?_;rintro bz f dm A outer s H _ Q E hr ⟨a,M,U,W,rfl,hT,qO,q⟩
 refine#[_,Aa (As (Ax (E7 de) hr %[|24] (AI (pv 0))))
  (Ak (BD (pv 0) BN rfl)),?_]
 refine#[a,M,U,W,rfl,hT,qO,λhe=>?_];refine#[hT.ob,de.TX.cl,de.TX.ended,(by show 9<1000;decide),?_];have e:BY "ended" (.bl true) (Df U W)=Df U (GY W):=by with_unfolding_all rfl
 have eu:A1 M (upd H a (.ins cK U.dx (BY "ended" (.bl true) (Df U W))))=A1 M H:=BA hT.ma;refine q he _ (But.upd %[|1]) #[A0A.trans (congrArg (λl=>some (HO.ins cK U.dx l)) e),by rw[Af hT.a_gv.symm];exact hT.gv,by rw[Af hT.a_lf.symm];exact hT.lf,hT.ma,hT.mg,hT.ml,hT.ne,?_,?_,?_,?_,?_,?_,hT.wr,hT.wl,hT.ln,hT.l9,hT.e9,hT.tok,hT.m5,hT.tsz,hT.kd,hT.ns,hT.rl]
 ·rw[eu];exact hT.room
 ·rw[eu];exact hT.tr
 ·rw[eu];exact hT.pt
 ·rw[eu];exact hT.sd
 ·rw[eu];exact hT.en
 ·rw[eu];exact hT.lr
end
inductive Om(C:Addr)(vs:List V)(H:Hp)(Q:VK)(E:XK):Prop|mk(a:Addr)(M:%[|3])(U:Tk)(W:Ta)(_:vs=[.ref a])(_:%[|30])(_:(∀m∈M,H m≠none))(_:∀(b:Addr)(U':Tk)(H':Hp),A0B H H'->H b=none->H U'.gv=none->H U'.lf=none->A0E (b::U'.gv::U'.lf::M) C H' b U' W->Q (.ref b) H')
section
def scTFork:=Au Us ["self","other"] 1
theorem UL(de:%[|5]):Fm P w K mg cK "fork" BC 7 (Om cK):=by
 refine de.h52.ok scTFork ?_;rintro bz f dm A outer s H _ Q E hr ⟨a,M,U,W,rfl,hT,hM,q⟩
 refine#[_,Aa (AC 1 scTFork.nd (Yc (Mo de) hr CW (Ag %[|13] (Ag %[|13] (Ag %[|13] (AN %[|13] %[|13]))))))
  (Aa (BD (pv 1) (%[|63] (AI %[|13])) rfl)
  (Aa (BD (pv 1) (%[|63] (AI %[|13])) rfl)
  (Aa (BD (pv 1) %[|13] rfl)
  (AX (pv 1))))),?_]
 refine#[hT.ob,de.TX.cl,de.TX.many,Px,hT.ob,de.TX.cl,de.TX.space,G6,hT.ob,de.TX.cl,de.TX.kind,V7,hT.ob,de.TX.cl,de.TX.sentence,KZ,hT.ob,de.TX.cl,de.TX.rule,Ob,λx dx hx i9 ja=>?_];have sM:A0B H (upd (upd H dx (.own x)) x (.ins cK dx [])):=(Ab i9 _).trans (Ab (by rw[Af ja.symm];exact hx) _);have xM:x∉M:=λz=>hM x z hx
 refine#[x,dx,U.sp,W.many,W.kind,W.rule,U.sv,W.t,W.room,M,rfl,A0A,xM,λm hm z=>hM m hm (sM.free z),hT.tr.keep (TS.same (Aj sM)),Tr.ok.mono hT.m5 hT.tok,hT.tsz,hT.m5,sM _ _ (A0D _ _ hT.room),hT.wr,λhn=>absurd hT.tok hn,λ_ hn=>absurd #[hT.rl,hT.kd] hn,λ_ _ _ he=>absurd he hT.ns,λ_ _ _ _ V1 H1 b1 gv0 lf0 jS esv T1=>#[rfl,?_]];have s1:A0B H H1:=CT hx i9 ja b1;obtain⟨gvH,ngx,ngd⟩:=Ce (C:=cK) gv0;obtain⟨lfH,nlx,nld⟩:=Ce (C:=cK) lf0;have T0:=hT.keep s1;refine#[T0.ob,de.TX.cl,de.TX.given,Ea,.inl (SqL.of T0.gv),λg2 iP=>?_];have s2:=Ab iP (.lst U.ges);have g22:upd H1 g2 (.lst U.ges) g2=some (.lst U.ges):=A0A;generalize upd H1 g2 _=H2 at*;have T2:=T1.keep s2;have ng2x:g2≠x:=(Ai T1.ob iP).symm;refine#[T2.ob,de.TX.cl,de.TX.given,(by show 9<1000;decide),?_];have e3:BY "given" (.ref g2) (Df V1 %[|61])=Df {V1 with gv:=g2} %[|61]:=by with_unfolding_all rfl
 have x3:upd H2 x (.ins cK V1.dx (BY "given" (.ref g2) (Df V1 %[|61]))) x=some (.ins cK V1.dx (Df {V1 with gv:=g2} %[|61])):=A0A.trans (congrArg (λl=>some (HO.ins cK V1.dx l)) e3);have b3:But [x] H2 (upd H2 x (.ins cK V1.dx (BY "given" (.ref g2) (Df V1 %[|61])))):=But.upd %[|1];generalize upd H2 x _=H3 at*
 have nax:a≠x:=λz=>by
  have h:=hT.ob;rw[z,hx]at h;cases h
 have nlfx:U.lf≠x:=λz=>by
  have h:=hT.lf;rw[z,hx]at h;cases h
 have lf3:=b3.at (s2 _ _ T0.lf) (Bg nlfx);have ob3:=b3.at (s2 _ _ T0.ob) (Bg nax);refine#[ob3,de.TX.cl,de.TX.left,DF,.inl (SqL.of lf3),λl2 dG=>?_];have s4:=Ab dG (.lst U.lfs);have l24:upd H3 l2 (.lst U.lfs) l2=some (.lst U.lfs):=A0A;generalize upd H3 l2 _=H4 at*;have nl2x:l2≠x:=(Ai x3 dG).symm;refine#[s4 _ _ x3,de.TX.cl,de.TX.left,(by show 9<1000;decide),?_];have e5:BY "left" (.ref l2) (Df {V1 with gv:=g2} %[|61])=Df {V1 with gv:=g2,lf:=l2} %[|61]:=by with_unfolding_all rfl
 have x5:upd H4 x (.ins cK V1.dx (BY "left" (.ref l2) (Df {V1 with gv:=g2} %[|61]))) x=some (.ins cK V1.dx (Df {V1 with gv:=g2,lf:=l2} %[|61])):=A0A.trans (congrArg (λl=>some (HO.ins cK V1.dx l)) e5);have b5:But [x] H4 (upd H4 x (.ins cK V1.dx (BY "left" (.ref l2) (Df {V1 with gv:=g2} %[|61])))):=But.upd %[|1];generalize upd H4 x _=H5 at*;have ob5:=b5.at (s4 _ _ ob3) (Bg nax);refine#[ob5,de.TX.cl,de.TX.ended,HA,x5,de.TX.cl,de.TX.ended,(by show 9<1000;decide),?_];have e6:BY "ended" (.bl W.ended) (Df {V1 with gv:=g2,lf:=l2} %[|61])=Df {V1 with gv:=g2,lf:=l2,ges:=U.ges,lfs:=U.lfs} W:=by with_unfolding_all rfl
 have x6:upd H5 x (.ins cK V1.dx (BY "ended" (.bl W.ended) (Df {V1 with gv:=g2,lf:=l2} %[|61]))) x=some (.ins cK V1.dx (Df {V1 with gv:=g2,lf:=l2,ges:=U.ges,lfs:=U.lfs} W)):=A0A.trans (congrArg (λl=>some (HO.ins cK V1.dx l)) e6);have b6:But [x] H5 (upd H5 x (.ins cK V1.dx (BY "ended" (.bl W.ended) (Df {V1 with gv:=g2,lf:=l2} %[|61])))):=But.upd %[|1];generalize upd H5 x _=H6 at*;have b16:But [x] H1 H6:=A0B.trans (Aj s2) (A0B.trans b3 (A0B.trans (Aj s4) (A0B.trans b5 b6)));have off:∀m∈[x],H m=none:=λm hm=>by rw[List.mem_singleton.mp hm];exact hx
 have s6:A0B H H6:=But.same off s1 b16;have g20:H g2=none:=s1.free iP
 have l23:H2 l2=none:=by
  cases e:H2 l2 with
  |none=>rfl
  |some o=>rw[b3.at e (Bg nl2x)]at dG;cases dG
 have kF:H l2=none:=s1.free (s2.free l23);have g26:H6 g2=some (.lst U.ges):=b6.at (b5.at (s4 _ _ (b3.at g22 (Bg ng2x))) (Bg ng2x)) (Bg ng2x);have l26:H6 l2=some (.lst U.lfs):=b6.at (b5.at l24 (Bg nl2x)) (Bg nl2x);have ngl:g2≠l2:=Ai g22 l23
 have k1:A0B (A1 (x::V1.gv::V1.lf::M) H1) (A1 (x::g2::l2::M) H6):=λp o e=>by
  obtain⟨e1,e2⟩:=Bc e;have n1:p≠x:=λz=>e2 (by rw[z];simp)
  refine AW (b16.at e1 (Bg n1)) λz=>?_
  simp only[zAD]at z e2;rcases z with q1|q1|q1|q1
  ·exact n1 q1
  ·rw[q1,iP]at e1;cases e1
  ·rw[q1]at e1;rw[s2 _ _ e1]at l23;cases l23
  ·exact e2 (.inr (.inr (.inr q1)))
 have k0:A0B (A1 M H) (A1 (x::g2::l2::M) H6):=λp o e=>by
  obtain⟨e1,e2⟩:=Bc e;refine AW (s6 _ _ e1) λz=>?_
  simp only[zAD]at z;rcases z with q1|q1|q1|q1
  ·rw[q1,hx]at e1;cases e1
  ·rw[q1,g20]at e1;cases e1
  ·rw[q1,kF]at e1;cases e1
  ·exact e2 q1
 refine ?_;exact q x {V1 with gv:=g2,lf:=l2,ges:=U.ges,lfs:=U.lfs} H6 s6 hx g20 kF #[x6,g26,l26,by simp,by simp,by simp,ngl,k1 _ _ T1.room,T1.tr.keep (TS.same k1),k1 _ _ T1.pt,T1.sd.keep k1,hT.en.keep k0,hT.lr.keep k0,hT.wr,hT.wl,hT.ln,hT.l9,hT.e9,hT.tok,hT.m5,hT.tsz,hT.kd,hT.ns,hT.rl]
end
def Ba(seen:List Int)(t:Tr):Str:=if (seen.all λk=>tv t k)=true then "grant" else if (seen.any λk=>tv t k)=true then "doubt" else "deny"
def Gb(sides:%[|25])(going seen:List Int)(t:Tr):Str:=
 if AG false t going=[]then "grant" else if AG true t going=[]then "deny"
 else if Ba seen t="grant"/\AO sides (%[|15] going)=true then "grant"
 else if Ba seen t="deny"/\AO sides (%[|29] going)=true then "deny" else "doubt"
def Eg(z:Str)(g:List Int)(t:Tr):List Int:=if z="grant" then AG true t g else if z="deny" then AG false t g else g
theorem CJ(hk:k∈room):decide (k∈AG true t room)=tv t k:=by
 unfold AG;rw[zA4,decide_eq_true_eq,List.mem_filter];constructor
 ·rintro⟨_,h⟩;exact eq_of_beq h
 ·intro h;exact#[hk,by rw[h];rfl]
theorem R1(h:g.Sublist room):N2 g (%[|15] room)=%[|15] g:=by
 unfold N2;refine (zC0 λk hk=>?_);rw[CJ (h.subset hk)];cases tv t k<;>rfl
theorem O1(h:g.Sublist room):EV g (%[|15] room)=%[|29] g:=by
 unfold EV;refine (zC0 λk hk=>?_);rw[CJ (h.subset hk)];cases tv t k<;>rfl
theorem FL(h:g.Sublist room):Bu g (%[|15] room)=Ba g t:=by
 have e1:(g.all λk=>decide (k∈AG true t room))=g.all λk=>tv t k:=by
  rw[zA4,zCG,zCG];exact#[λq k hk=>by rw[<-CJ (h.subset hk)];exact q k hk,λq k hk=>by rw[CJ (h.subset hk)];exact q k hk]
 have e2:(g.any λk=>decide (k∈AG true t room))=g.any λk=>tv t k:=by
  rw[zA4,zCF,zCF];exact#[λ⟨k,hk,q⟩=>#[k,hk,by rw[<-CJ (h.subset hk)];exact q],λ⟨k,hk,q⟩=>#[k,hk,by rw[CJ (h.subset hk)];exact q]]
 unfold Bu Ba;rw[e1,e2]
theorem On(seen:List Int)(t:Tr):Ba seen t="grant"\/Ba seen t="deny"\/Ba seen t="doubt":=by
 unfold Ba;split
 ·exact .inl rfl
 ·split
  ·exact .inr (.inr rfl)
  ·exact .inr (.inl rfl)
theorem Zi{going seen room:List Int}(hg:going.Sublist room)(hs:seen.Sublist room):CO sides going seen (%[|15] room)=Gb sides going seen t:=by
 unfold CO Gb;rw[R1 hg,O1 hg,FL hs];by_cases h0:%[|29] going=[]
 ·rw[if_pos h0,if_pos h0]
 rw[if_neg h0,if_neg h0];by_cases h1:%[|15] going=[]
 ·rw[if_pos h1,if_pos h1]
 rw[if_neg h1,if_neg h1];have g1:¬("grant":Str)="deny":=by decide
 have g2:¬("deny":Str)="grant":=by decide
 have g3:¬("doubt":Str)="grant":=by decide
 have g4:¬("doubt":Str)="deny":=by decide
 rcases On seen t with e|e|e<;>rw[e]<;>cases AO sides (%[|15] going)<;>cases AO sides (%[|29] going)<;>simp[g1,g2,g3,g4]
theorem OH(h:g.Sublist room):C5 z g (%[|15] room)=Eg z g t:=by
 unfold C5 Eg;rw[R1 h,O1 h]
theorem Rp(z:Str)(g:List Int)(t:Tr):(Eg z g t).Sublist g:=by
 unfold Eg;split
 ·exact zAM
 ·split
  ·exact zAM
  ·exact zB3 _
abbrev Ii:=Sum Str Tr
def IAt(H:Hp)(v:V):Ii->Prop
 |.inl z=>v=.str z
 |.inr t=>t.At H v
abbrev A0Y(H:Hp):List V->List Ii->Prop:=Paired (IAt H)
theorem IAt.keep{H H':Hp}(s:TS H H'){v:V}:∀{i:Ii},IAt H v i->IAt H' v i
 |.inl _,h=>h
 |.inr _,h=>Tr.At.keep s h
theorem A0Y.keep{H H':Hp}(s:TS H H'):∀{xs:List V}{is:List Ii},A0Y H xs is->A0Y H' xs is
 |_,_,.nil=>.nil
 |_,_,.cons r q=>.cons (IAt.keep s r) (A0Y.keep s q)
theorem A0Y.app{H:Hp}:∀{xs ys:List V}{is js:List Ii},A0Y H xs is->A0Y H ys js->A0Y H (xs++ys) (is++js)
 |_,_,_,_,.nil,h=>h
 |_,_,_,_,.cons r q,h=>.cons r (A0Y.app q h)
theorem A0Y.last{H:Hp}:∀{xs:List V}{ts:List Ii},A0Y H xs ts->xs≠[]->TN λgR y fQ t=>Im (xs=gR++[y]) (ts=fQ++[t]) (A0Y H gR fQ) (IAt H y t)
 |_,_,.nil,h=>absurd rfl h
 |_,_,.cons (a:=v) (b:=t) r .nil,_=>#[[],v,[],t,rfl,rfl,.nil,r]
 |_,_,.cons (a:=v) (b:=t) r (.cons r' q'),_=>by
  obtain⟨gR,y,fQ,u,e1,e2,q,a⟩:=A0Y.last (Paired.cons r' q') %[|11];exact#[v::gR,y,t::fQ,u,by rw[e1];rfl,by rw[e2];rfl,.cons r q,a]
theorem aS(h:A0Y H ys js):A0Y H (.str z::ys) (.inl z::js):=.cons (show IAt H (.str z) (.inl z) from rfl) h
theorem bA(a:t.At H v)(h:A0Y H ys js):A0Y H (v::ys) (.inr t::js):=.cons (show IAt H v (.inr t) from a) h
def SB:Ii->List Nat
 |.inl z=>Em z
 |.inr t=>BZ t
def wt:Tr->Nat
 |.lt _=>1
 |.nt t=>wt t+2
 |.bn _ a b=>wt a+wt b+4
def wi:Ii->Nat
 |.inl _=>1
 |.inr t=>wt t
def bV:Ii->Prop
 |.inl z=>z.length=1
 |.inr t=>t.ok 5
theorem Yj:∀t:Tr,1<=wt t
 |.lt _=>zAA _
 |.nt _=>Nat.le_add_left 1 (wt _+1)
 |.bn _ a b=>Nat.le_add_left 1 (wt a+wt b+3)
theorem Pl:∀t:Tr,wt t<=4*t.size
 |.lt _=>by show 1<=4*1;decide
 |.nt t=>by
  have:=Pl t;show wt t+2<=4*(t.size+1);omega
 |.bn _ a b=>by
  have h1:=Pl a;have h2:=Pl b;show wt a+wt b+4<=4*(a.size+b.size+1);omega
theorem YC:∀i:Ii,1<=wi i
 |.inl _=>zAA _
 |.inr t=>Yj t
def ws(is:List Ii):Nat:=(is.map wi).sum
theorem JS(a b:List Ii):ws (a++b)=ws a+ws b:=by
 unfold ws;rw[List.map_append,zCR]
theorem SJ:∀is:List Ii,is.length<=ws is
 |[]=>zAA _
 |i::r=>by
  have h1:=YC i;have h2:=SJ r;show r.length+1<=(((i::r).map wi).sum);rw[zAS,zBQ];show r.length+1<=wi i+ws r;omega
def Hu(ys:List Str):List Nat:=(ys.map Em).flatten
def RB(is:List Ii):List Nat:=(is.reverse.map SB).flatten
theorem IS(ys:List Str)(z:Str):Hu (ys++[z])=Hu ys++Em z:=by
 unfold Hu;simp
theorem Kj(a b:List Ii):RB (a++b)=RB b++RB a:=by
 unfold RB;simp
theorem N5(i:Ii):RB [i]=SB i:=by
 unfold RB;simp
theorem MD:∀ys:List Str,(ys.map (·.length)).sum=(Hu ys).length
 |[]=>rfl
 |z::r=>by
  have h:=MD r;rw[zAS,zBQ,h];show z.length+(Hu r).length=(Em z++Hu r).length;rw[zA,<-Bq]
theorem KL:∀ys:List Str,Em (Str.join #[#v[]] ys)=Hu ys
 |[]=>rfl
 |z::r=>by
  rw[join_nil_cons,AR,KL r];rfl
theorem QB(ys:List Str):Em (Txt.join "" ys)=Hu ys:=by
 have e:Txt.join "" ys=Str.join "" ys:=eq_of_beq (join_plain_closes "" ys);rw[e];exact KL ys
structure ShInv(H H2:Hp)(sl wl:Addr)(t0:Tr)(ys:List Str)(xs:List V)(is:List Ii):Prop where
 sm:A0B H H2
 s:H2 sl=some (.lst (ys.map V.str))
 w:H2 wl=some %[|12]
 it:A0Y H2 xs is
 ok:∀i∈is,bV i
 eq:Hu ys++RB is=BZ t0
 le:ys.length+ws is<=92
theorem ShInv.pop(nw:H wl=none)(ne:sl≠wl)(p:ShInv H H2 sl wl t0 ys xs is)(h:xs≠[]):
  Fb λy d4 i=>Wq (xs[xs.length-1]? = some y) (is=d4++[i]) (bV i) (IAt %[|72] y i) (A0B H %[|72]) (%[|72] sl=some (.lst (ys.map V.str))) (A0Y %[|72] xs.dropLast d4) (∀i∈d4,bV i) (Hu ys++(SB i++RB d4)=BZ t0) (ys.length+(ws d4+wi i)<=92) (ws is=ws d4+wi i):=by
 obtain⟨gR,y,d4,i,rfl,rfl,q,a⟩:=p.it.last h;have k:TS H2 (upd H2 wl (.lst (gR++[y]).dropLast)):=TS.lst p.w;refine#[y,d4,i,CD _ _,rfl,p.ok i %[|1],a.keep k,Ao p.sm nw _,by rw[Af ne];exact p.s,?_,λj hj=>p.ok j (by simp[hj]),?_,?_,?_]
 ·rw[zAY]at k ⊢;exact q.keep k
 ·rw[<-p.eq,Kj,N5]
 ·have:=p.le;rw[JS]at this;have e:ws [i]=wi i:=by unfold ws;simp
  omega
 ·rw[JS];have e:ws [i]=wi i:=by unfold ws;simp
  omega
inductive Pu(vs:List V)(H:Hp)(Q:VK)(E:XK):Prop|mk(v:V)(t:Tr)(_:vs=[v])(_:t.At H v)(_:t.ok 5)(_:t.size<=23)(_:∀(z:Str)(H':Hp),Em z=BZ t->A0B H H'->Q (.str z) H')
theorem Vk(h:j<4):∃z:Str,aG (jn j)=some (.str z)/\Em z=[jc j]:=by
 match j,h with
 |0,_=>exact#["&",by decide,rfl]
 |1,_=>exact#["|",by decide,rfl]
 |2,_=>exact#[">",by decide,rfl]
 |3,_=>exact#["=",by decide,rfl]
section
def A2E:=Au Ut ["sentence","signs","waiting","part"] 1
theorem G3(de:%[|5]):%[|8] "shown" BC 1 Pu:=by
 refine de.h48.ok A2E ?_;rintro bz f dm A outer s H _ Q E hr ⟨v,t,rfl,ha,hok,hs,q⟩;obtain⟨tL,mL⟩:=de.SHT.let';obtain⟨dJ,mJ,hJ⟩:=de.SHT.jo
 refine#[_,Aa (AC 1 A2E.nd (Av Bi))
  (Aa (AC 2 A2E.nd (Av (AI (pv 0))))
  (Aa (Ei zAR (B6 (pv 2) (λ_=>rfl))
   (Aa (AC 3 A2E.nd (Cn (pv 2)))
   (Ak (Aq (Bv (AQ L9 %[|10] de.SHT.isi boot_isinstance (AN (pv 3) (VO (v:=.ty "str") %[|10] de.SHT.str boot_str rfl))))
    (Ak (As (A7 (pv 1) (AI (pv 3)))))
    (Ak (Aq (AM AH %[|57] Ae)
     (Ak (As (A7 (pv 1) (AI (Am F0 (Es (v:=.str "abcde") %[|10] mL #[_,rfl]) %[|57])))))
     (Ak (Aq (AM AH %[|57] Ae)
      (Ak (As (Eh zBL zCU zCV FR (pv 2) (AI (Av (AN %[|57] Ae))))))
      (Ak (As (Eh zBL zCU zCV FR (pv 2) (AI (Av (Ag Ae (Ag %[|57] (Ag (Am YL (Es (v:=.ref dJ) %[|10] mJ rfl) %[|57]) (AN %[|57] Ae)))))))))))))))))
  (AX (Eh zB6 zCB zCC FE Ae (AI (pv 1)))))),?_]
 refine#[GD,λsl d3=>#[OP,λwl fM=>?_]];have ne:sl≠wl:=Ai (A0A (H:=H) (a:=sl) (o:=.lst [])) fM;have nw:H wl=none:=(Ab d3 %[|9]).free fM;have sm0:A0B H (upd (upd H sl %[|9]) wl (.lst [v])):=(Ab d3 _).trans (Ab fM _);have lt9:∀{k:Nat},k<=999->k<sizeLine:=λh=>An (zAC h %[|2])
 refine#[λm σ H2=>TN λ(pv':Option V)(ys:List Str)(xs:List V)(is:List Ii)=>BV (σ=[some v,some (.ref sl),some (.ref wl),pv']) (ShInv H H2 sl wl t ys xs is) (ws is=m),#[_,none,[],[v],[.inr t],rfl,#[sm0,by rw[Af ne,A0A];rfl,A0A,.cons (ha.keep (TS.same sm0)) .nil,λi hi=>?_,by rw[N5];rfl,?_],rfl],?_]
 ·rw[List.mem_singleton.mp hi];exact hok
 ·have:=Pl t;have e:ws [.inr t]=wt t:=by unfold ws;simp[wi]
  show 0+ws [.inr t]<=92;omega
 rintro m σ H2 ⟨pv',ys,xs,is,rfl,p,rfl⟩;refine#[_,.inl #[xs,SqL.of p.w,rfl],?_];exists 12
 ·have hx:xs≠[]:=by
   intro z;subst z;exact absurd c %[|2]
  refine#[λσ' H'=>∃m',m'<ws is/\TN λ(pv':Option V)(ys:List Str)(xs:List V)(is:List Ii)=>BV (σ'=[some v,some (.ref sl),some (.ref wl),pv']) (ShInv H H' sl wl t ys xs is) (ws is=m'),λ_ _ h=>h,?_];obtain⟨y,d4,i,ey,rfl,oki,ai,sm1,s1,kj,i4,eq1,le1',we⟩:=p.pop nw ne hx;have w1:%[|72] wl=some (.lst xs.dropLast):=A0A;have nsl:∀{o:HO},TS %[|72] (upd %[|72] sl o):=TS.lst s1;have nsl0:H sl=none:=d3;have km:ys.length<=92:=by omega
  have gX:d4.length<=92:=by
   have:=SJ d4;omega
  have hxl:xs.dropLast.length<=92:=by
   have e:xs.dropLast.length=d4.length:=zBV kj;omega
  refine#[.inl #[rfl,_,SqL.of p.w],p.w,ey,?_];have hms:ys.map V.str=ys.map V.str:=rfl
  cases i with
  |inl z=>
   cases ai;refine#[_,_,_,_,rfl,.str _,Ud _ _,?_];refine AD ?_;refine#[.inl #[rfl,_,SqL.of s1],s1,lt9 %[|58],?_];refine#[ws d4,by rw[we];show ws d4<ws d4+1;omega,_,ys++[z],xs.dropLast,d4,rfl,#[Ao sm1 nsl0 _,by rw[A0A,List.map_append];rfl,by rw[Af ne.symm];exact w1,kj.keep nsl,i4,?_,?_],rfl]
   ·rw[IS,zB2];exact eq1
   ·rw[zA];have:ys.length+(ws d4+1)<=92:=le1';show ys.length+1+ws d4<=92;omega
  |inr u=>
   cases u with
   |lt k=>
    obtain⟨b,rfl,hb⟩:=ai;refine#[_,_,_,_,rfl,.tup hb,Ec _,?_];refine Aw ?_;refine#[SqT.of hb,Ac (j:=0) rfl,rfl,?_];refine BL rfl ?_;refine#[.inl #[rfl,_,SqL.of s1],SqT.of hb,Ac (j:=1) rfl,_,_,_,rfl,rfl,SK,EC oki,s1,lt9 %[|58],?_];refine#[ws d4,by rw[we];show ws d4<ws d4+1;omega,_,ys++[#[#v[97+k]]],xs.dropLast,d4,rfl,#[Ao sm1 nsl0 _,by rw[A0A,List.map_append];rfl,by rw[Af ne.symm];exact w1,kj.keep nsl,i4,?_,?_],rfl]
    ·rw[IS,zB2];exact eq1
    ·rw[zA];have:ys.length+(ws d4+1)<=92:=le1';show ys.length+1+ws d4<=92;omega
   |nt u=>
    obtain⟨b,x,rfl,hb,hx'⟩:=ai;refine#[_,_,_,_,rfl,.tup hb,Ec _,?_];refine Aw ?_;refine#[SqT.of hb,Ac (j:=0) rfl,rfl,?_];refine Bz %[|2] ?_;refine#[SqT.of hb,Ac (j:=0) rfl,rfl,?_];refine BL rfl ?_;have le2':ys.length+(ws d4+(wt u+2))<=92:=le1';refine#[.inl #[rfl,_,SqL.of w1],SqT.of hb,Ac (j:=1) rfl,C4,λnl fq=>?_];have kp:TS %[|72] (upd (upd %[|72] nl (.lst [x,.str "-"])) wl (.lst (xs.dropLast++[x,.str "-"]))):=(TS.new fq).trans (TS.lst ((Ab fq _) _ _ w1));refine#[wl,nl,_,_,rfl,rfl,(Ab fq _) _ _ w1,A0A,Dv (by show xs.dropLast.length+2<=1000;omega),?_]
    have ew:ws (d4++[.inr u,.inl "-"])=ws d4+(wt u+1):=by
     rw[JS];unfold ws;simp[wi]
    refine#[_,?_,_,ys,xs.dropLast++[x,.str "-"],d4++[.inr u,.inl "-"],rfl,#[Ao (sm1.trans (Ab fq _)) nw _,by rw[Af ne];exact (Ab fq _) _ _ s1,A0A,(kj.keep kp).app (bA (hx'.keep kp) (aS .nil)),?_,?_,?_],rfl]
    ·rw[we,ew];show ws d4+(wt u+1)<ws d4+(wt u+2);omega
    ·intro j hj;rcases List.mem_append.mp hj with z|z
     ·exact i4 j z
     ·rcases List.mem_cons.mp z with z|z
      ·subst z;exact oki
      ·rw[List.mem_singleton.mp z];rfl
    ·rw[Kj,<-eq1]
     congr 1
     unfold RB;simp[SB,BZ];rfl
    ·rw[ew];omega
   |bn j a b'=>
    obtain⟨b,x,x2,rfl,hb,hx',iJ⟩:=ai;obtain⟨hj,oka,okb⟩:=oki;obtain⟨zj,ej,cj⟩:=Vk hj;refine#[_,_,_,_,rfl,.tup hb,Ec _,?_];refine Aw ?_;refine#[SqT.of hb,Ac (j:=0) rfl,rfl,?_];refine Bz FU ?_;refine#[SqT.of hb,Ac (j:=0) rfl,rfl,?_];refine Bz JP ?_;have le2':ys.length+(ws d4+(wt a+wt b'+4))<=92:=le1';refine#[.inl #[rfl,_,SqL.of w1],SqT.of hb,Ac (j:=2) rfl,SqT.of hb,Ac (j:=0) rfl,dJ,_,_,_,rfl,rfl,hJ,ej,SqT.of hb,Ac (j:=1) rfl,SK,λnl fq=>?_];have kp:TS %[|72] (upd (upd %[|72] nl (.lst [.str ")",x2,.str zj,x,.str "("])) wl (.lst (xs.dropLast++[.str ")",x2,.str zj,x,.str "("]))):=(TS.new fq).trans (TS.lst ((Ab fq _) _ _ w1));refine#[wl,nl,_,_,rfl,rfl,(Ab fq _) _ _ w1,A0A,Dv (by show xs.dropLast.length+5<=1000;omega),?_]
    have ew:ws (d4++[.inl ")",.inr b',.inl zj,.inr a,.inl "("])=ws d4+(wt a+wt b'+3):=by
     rw[JS];unfold ws;simp[wi];omega
    refine#[_,?_,_,ys,xs.dropLast++[.str ")",x2,.str zj,x,.str "("],d4++[.inl ")",.inr b',.inl zj,.inr a,.inl "("],rfl,#[Ao (sm1.trans (Ab fq _)) nw _,by rw[Af ne];exact (Ab fq _) _ _ s1,A0A,(kj.keep kp).app (aS (bA (iJ.keep kp) (aS (bA (hx'.keep kp) (aS .nil))))),?_,?_,?_],rfl]
    ·rw[we,ew];show ws d4+(wt a+wt b'+3)<ws d4+(wt a+wt b'+4);omega
    ·intro i' jh;rcases List.mem_append.mp jh with z|z
     ·exact i4 i' z
     ·have e5:i'=.inl ")"\/i'=.inr b'\/i'=.inl zj\/i'=.inr a\/i'=.inl "(":=by simpa using z
      rcases e5 with e|e|e|e|e
      ·subst e;rfl
      ·subst e;exact okb
      ·subst e;show zj.length=1;rw[Bq,cj];rfl
      ·subst e;exact oka
      ·subst e;rfl
    ·rw[Kj,<-eq1]
     congr 1
     have e3:RB [.inl ")",.inr b',.inl zj,.inr a,.inl "("]=Em "("++(BZ a++(Em zj++(BZ b'++Em ")"))):=by
      unfold RB;simp[SB]
     rw[e3,cj];rfl
    ·rw[ew];omega
 ·have hx:xs=[]:=by
   cases xs with
   |nil=>rfl
   |cons a r=>exact absurd rfl c
  subst hx;have eq1:=p.eq;cases p.it
  have eq2:Hu ys=BZ t:=by
   have:RB []=[]:=rfl;rw[this,zA6]at eq1;exact eq1
  refine#[rfl,_,_,ys,rfl,rfl,SqL.of p.s,?_,?_]
  ·rw[MD,eq2];have:=B2 t;show (BZ t).length+ys.length*0<=16777216;omega
  ·exact q _ H2 (by rw[QB];exact eq2) p.sm
end
def AY(m:Nat)(ts:List Tr):List Int:=ts.foldl (λr t=>r.filter λk=>tv t k == true) (Dw (2^m))
theorem EE:AY m (ts++[t])=(AY m ts).filter λk=>tv t k == true:=by
 unfold AY;rw[List.foldl_append];rfl
theorem Ky:∀(ts:List Tr)(r:List Int),(ts.foldl (λr t=>r.filter λk=>tv t k == true) r).Sublist r
 |[],r=>zB3 r
 |t::ts,r=>(Ky ts _).trans zAM
theorem GR(h:m<=5)(ts:List Tr):Wr (AY m ts):=(Vh h).sub (Ky ts _)
inductive ME(cS cW:Addr)(vs:List V)(H:Hp)(Q:VK)(E:XK):Prop|mk(st:Addr)(m:Nat)(xs:List V)(ts:List Tr)(_:vs=[.int m,.ref st])(_:H st=some %[|12])(_:A0J H xs ts)(_:(∀t∈ts,t.ok 5/\t.size<=60))(_:1<=m)(_:m<=5)(_:((∃t∈ts,¬t.ok m)->∀H',A0B H H'->E (.ref cS) none H'))(_:((∀t∈ts,t.ok m)->AY m ts=[]->∀H',A0B H H'->E (.ref cW) none H'))(_:((∀t∈ts,t.ok m)->AY m ts≠[]->∀(l:Addr)(H':Hp),A0B H H'->H l=none->AK H' l (AY m ts)->Q (.ref l) H'))
section
def A1W:=Au Pn ["many","standing","sentence","room"] 2
theorem QT(de:%[|5]):%[|8] "room_of" (EI P w) 4 (ME cS cW):=by
 refine de.h94.okX A1W ?_;rintro bz f dm A outer s H _ Q E hr ⟨st,m,xs,ts,rfl,hS,hP,hok,dZ,dR,qS,qW,q⟩;have hr3:A0M 3 _:=hr.mono %[|2];have dE:=hP.len
 refine#[_,Aa (BB PassesOwn.leaving rfl (AT (pv 1)) (Bo 2 A1W.nd)
   (Ak (As (Ax (El de) hr3 %[|24] (AN (pv 2) (pv 0))))))
  (Aa (AC 3 A1W.nd (Ax (Vm de) hr Al (AI (pv 0))))
  (Aa (BB PassesOwn.leaving rfl (AT (pv 1)) (Bo 2 A1W.nd)
   (Ak (AC 3 A1W.nd (Ax (CI de) hr3 Al (AN (pv 2) (pv 3))))))
  (Aa (Aq (Ct (B6 (pv 3) (λ_=>rfl)))
   (Ak (Br (Ex:=E) BI rfl de.X_NoWorld.cls de.X_NoWorld.at_ de.X_NoWorld.ty %[|10] de.X_NoWorld.m (AI Ae) (hvl:=λ_ _ _ h=>#[by decide,h])))
   Ah)
  (AX (pv 3))))),?_]
 refine#[#[_,SqL.of hS],A0 (K:=K) (a:=st) (xs:=xs) (λi σ H2=>∃v0,BV (σ=[some (.int (m:Int)),some (.ref st),v0,none]) (A0B H H2) (∀t∈ts.take i,t.ok m)) #[_,rfl,A0B.refl _,λt ht=>by simp at ht] ?_ ?_ ?_]
 ·rintro i σ H2 _ ⟨v0,rfl,s2,_⟩;exact SqL.of (s2 _ _ hS)
 ·rintro i x σ H2 hx ⟨v0,rfl,s2,hall⟩;obtain⟨t,ht,dN⟩:=B5 hP hx;obtain⟨o1,o2⟩:=hok t (zAJ ht);refine#[x,t,m,rfl,dN.keep (TS.same s2),o1,o2,λhn H3 s3=>qS #[t,zAJ ht,hn] H3 (s2.trans s3),λhy H3 s3=>?_];refine#[_,rfl,s2.trans s3,λu hu=>?_];rw[zAQ,ht]at hu;rcases List.mem_append.mp hu with h1|h1
  ·exact hall u h1
  ·have:u=t:=by simpa using h1
   rw[this];exact hy
 rintro σ H2 ⟨v0,rfl,s2,hall⟩;rw[dE,zAP]at hall;refine#[m,rfl,dZ,dR,λr H3 s3 r0 hr3'=>?_];have s23:=s2.trans s3;refine#[#[_,SqL.of (s23 _ _ hS)],A0 (K:=K) (a:=st) (xs:=xs) (λi σ H4=>Cd λ(v0:Option V)(r:Addr)=>Im (σ=[some (.int (m:Int)),some (.ref st),v0,some (.ref r)]) (A0B H H4) (H r=none) (AK H4 r (AY m (ts.take i)))) #[_,r,rfl,s23,s2.free r0,hr3'] ?_ ?_ ?_]
 ·rintro i σ H4 _ ⟨v0,r,rfl,s4,_⟩;exact SqL.of (s4 _ _ hS)
 ·rintro i x σ H4 hx ⟨v0,r,rfl,s4,r0',f7⟩;obtain⟨t,ht,dN⟩:=B5 hP hx;obtain⟨o1,o2⟩:=hok t (zAJ ht);refine#[x,t,r,_,rfl,dN.keep (TS.same s4),o1,by omega,SqL.of f7,GR dR _,λl H5 s5 l0 hl=>?_];refine#[_,l,rfl,s4.trans s5,s4.free l0,?_];rw[zAQ,ht];show AK H5 l (AY m (ts.take i++[t]));rw[EE];exact hl
 rintro σ H4 ⟨v0,r,rfl,s4,r0',f7⟩;rw[dE,zAP]at f7;refine#[_,.inl #[_,SqL.of f7,rfl],?_];by_cases c:AY m ts=[]
 ·rw[c];exact AD (qW hall c H4 s4)
 ·have e:(!((AY m ts).map V.int).isEmpty)=true:=by
   cases h:AY m ts with
   |nil=>exact absurd h c
   |cons _ _=>rfl
  rw[e];exact Aw (q hall c r H4 s4 r0' f7)
end
structure Hk where
 dx:Addr
 sp:Addr
 mks:Addr
 tk:Addr
 ln:Addr
def De(U:Hk)(m:Nat):List (Str×V):=[("space",.ref U.sp),("many",.int m),("marks",.ref U.mks),("talks",.ref U.tk),("lines",.ref U.ln)]
theorem D3:(De U m).lookup ("space":Str)=some (.ref U.sp):=by with_unfolding_all rfl
theorem Mn:(De U m).lookup ("lines":Str)=some (.ref U.ln):=by with_unfolding_all rfl
theorem CK:(De U m).lookup ("write":Str)=none:=by with_unfolding_all rfl
theorem Oh:(De U m).lookup ("room":Str)=none:=by with_unfolding_all rfl
def AE(ws:List Str):Str:=Txt.join " " ws
inductive MI(vs:List V)(H:Hp)(Q:VK)(E:XK):Prop|mk(l:Addr)(ws:List Str)(_:vs=[.ref l])(_:H l=some (.lst (ws.map V.str)))(_:(ws.map (·.length)).sum+ws.length<=100000)(_:Q (.str (AE ws)) H)
inductive K7(C:Addr)(vs:List V)(H:Hp)(Q:VK)(E:XK):Prop|mk(x l:Addr)(U:Hk)(m:Nat)(ws:List Str)(ls:List V)(_:vs=[.ref x,.ref l])(_:H x=some (.ins C U.dx (De U m)))(_:H U.ln=some (.lst ls))(_:ls.length<=900)(_:H l=some (.lst (ws.map V.str)))(_:(ws.map (·.length)).sum+ws.length<=100000)(_:Q .non (upd H U.ln (.lst (ls++[.str (AE ws)]))))
inductive OF(C:Addr)(vs:List V)(H:Hp)(Q:VK)(E:XK):Prop|mk(x:Addr)(U:Hk)(m:Nat)(room:List Int)(_:vs=[.ref x])(_:H x=some (.ins C U.dx (De U m)))(_:AK H U.sp room)(_:∀(l:Addr)(H':Hp),A0B H H'->H l=none->AK H' l room->Q (.ref l) H')
section
def Uo:=Au O6 ["words"] 1
def TD:=Au Pg ["self","words"] 2
def Vc:=Au Tc ["self"] 1
theorem Q3(de:%[|5]):%[|8] "line_of" BC 1 MI:=by
 refine de.h32.ok Uo ?_;rintro bz f dm A outer s H _ Q E hr ⟨l,ws,rfl,hl,hz,q⟩;refine#[_,AX (Eh zB6 zCB zCC FE Ae (AI (pv 0))),?_];exact#[rfl," ",l,ws,rfl,rfl,SqL.of hl,by show (ws.map (·.length)).sum+ws.length*1<=16777216;omega,q]
theorem Ls(de:%[|5]):%[|39] "room" BC 1 (OF cH):=by
 refine de.h78.ok Vc ?_;rintro bz f dm A outer s H _ Q E hr ⟨x,U,m,room,rfl,hx,fB,q⟩;refine#[_,AX (%[|63] (AI %[|13])),?_];exact#[hx,de.HX.cl,de.HX.space,D3,.inl (SqL.of fB),λl hl=>q l _ (Ab hl _) hl A0A]
theorem Cg(de:%[|5]):%[|39] "write" BC 2 (K7 cH):=by
 refine de.h33.ok TD ?_;rintro bz f dm A outer s H _ Q E hr ⟨x,l,U,m,ws,ls,rfl,hx,fw,hls,hl,hz,q⟩;refine#[_,Ak (As (A7 %[|13] (AI (Ax (Q3 de) hr Al (AI (pv 1)))))),?_];exact#[hx,de.HX.cl,de.HX.lines,Mn,.inl #[rfl,_,SqL.of fw],l,ws,rfl,hl,hz,fw,An %[|0],q]
end
theorem IF{K:PySem.W.Frag}(hr:SqL K H a xs)(dq:H acc=none)(dj:xs.length<=900)(hb:vs.length=xs.length)(ht:∀(i:Nat) (x b:V),xs[i]? = some x->vs[i]? = some b->∀H2,A0B H H2->∀R:V->Hp->Prop,(∀H3,A0B H2 H3->R b H3)->te (some x::rest) H2 R)(hd:∀v0 H2,A0B H H2->H2 acc=some (.lst vs)->D.nx (v0::rest) H2)(v:Option V):
  Ek (Va K a) (Cr 0) (Du MB (Dm acc te)) D (v::rest) (upd H acc %[|9]):=by
 refine A0 (K:=K) (a:=a) (xs:=xs) %[(vs.take i)|119] #[v,rfl,Ab dq _,A0A] ?_ ?_ ?_
 ·rintro i σ H2 _ ⟨v0,rfl,s2,_⟩;exact s2.seq hr
 ·rintro i x σ H2 hx ⟨v0,rfl,s2,dL⟩
  have hi:i<vs.length:=by
   have:=%[hx|117].1;omega
  have iA:vs[i]? = some vs[i]:=List.getElem?_eq_getElem hi;have et:vs.take (i+1)=vs.take i++[vs[i]]:=by rw[zAQ,iA];rfl
  refine AD ?_;refine ht i x _ hx iA H2 s2 _ λH3 s3=>?_
  refine#[_,s3 _ _ dL,An ?_,?_]
  ·rw[zAW];omega
  refine#[_,rfl,Ao (s2.trans s3) dq _,?_];rw[A0A,et]
 ·rintro σ H2 ⟨v0,rfl,s2,dL⟩;rw[<-hb,zAP]at dL;exact hd v0 H2 s2 dL
def Ch(t:Tr):Str:=#[(BZ t).toArray]
theorem FP(h:Em z=BZ t):z=Ch t:=by
 unfold Ch;rw[<-h]
theorem Fk(t:Tr):(Ch t).length<=4*t.size:=by
 have:=B2 t
 have e:(Ch t).length=(BZ t).length:=by
  show (BZ t).toArray.size=_;rw[zAK]
 omega
def BQ(m:Nat)(ts:List Tr):Str:=AE %[|101]
theorem FY:∀{ts:List Tr},(∀t∈ts,t.size<=60)->((ts.map Ch).map (·.length)).sum<=240*ts.length
 |[],_=>zAA _
 |t::ts,h=>by
  have h1:=Fk t;have h2:=h t List.mem_cons_self;have h3:=FY (ts:=ts) λu hu=>h u %[hu|116]
  rw[zAS,zAS,zBQ,zAO];omega
theorem Ji{m:Nat}(h:m<=5):(Str.ofString (toString (m:Int))).length<=10:=by
 match m,h with
 |0,_=>decide
 |1,_=>decide
 |2,_=>decide
 |3,_=>decide
 |4,_=>decide
 |5,_=>decide
theorem SG(m:Nat):(List.replicate ((m:Int)).toNat [V.non]).flatten=List.replicate m V.non:=by
 rw[zBG]
 induction m with
 |zero=>rfl
 |succ m ih=>rw[zBF,zCL,ih];rfl
inductive PJ(C cS cW:Addr)(vs:List V)(H:Hp)(Q:VK)(E:XK):Prop|mk(x dx st:Addr)(m:Nat)(xs:List V)(ts:List Tr)(_:vs=[.ref x,.int m,.ref st])(_:H x=some (.ins C dx []))(_:H st=some %[|12])(_:A0J H xs ts)(_:(∀t∈ts,t.ok 5/\t.size<=23))(_:ts.length<=100)(_:1<=m)(_:m<=5)(_:((∃t∈ts,¬t.ok m)->∀H',But [x] H H'->E (.ref cS) none H'))(_:((∀t∈ts,t.ok m)->AY m ts=[]->∀H',But [x] H H'->E (.ref cW) none H'))(_:((∀t∈ts,t.ok m)->AY m ts≠[]->∀(U:Hk)(H':Hp),But [x] H H'->H U.sp=none->H U.mks=none->H U.tk=none->H U.ln=none->H' x=some (.ins C U.dx (De U m))->AK H' U.sp (AY m ts)->H' U.mks=some %[|77]->H' U.tk=some (.dK [])->H' U.ln=some (.lst [.str (BQ m ts)])->Q .non H'))
section
variable {f:Addr}
def Wj:=Au UY ["self","many","standing"] 3
theorem R9(de:%[|5]):Fi P w K mg cH "House" (EI P w) 5 (PJ cH cS cW):=by
 refine (fi de.kHouse de.h95).okX Wj ?_;rintro bz f dm A outer s H _ Q E hr ⟨x,dx,st,m,xs,ts,rfl,hx,hS,hP,hok,dj,dZ,dR,qS,qW,q⟩;have dE:=hP.len;have kD:st≠x:=AV hS hx %[|11];have kt:∀{H1:Hp},But [x] H H1->TS H H1:=λb p xs e=>b.at e (Bg (AV e hx %[|11]))
 refine#[_,Aa (BD (pv 0) (Ax (QT de) hr %[|24] (AN (pv 1) (pv 2))) rfl)
  (Aa (BD (pv 0) (pv 1) rfl)
  (Aa (BD (pv 0) (Ap Yi (Av (AI Cm)) (pv 1)) rfl)
  (Aa (BD (pv 0) Rw rfl)
  (Aa (BD (pv 0) (Av Bi) rfl)
  (Ak (As (By (pv 0) de.HX.cl (Cg de) hr Al (AI (Ap Te (Av (AN Ae (AJ Jw %[|10] de.T.str boot_str (AI (pv 1))))) (PE.nox (A8 (N:=["sentence"]) (js:=[none]) (cl:=[]) #[rfl,rfl,rfl,zBU _,rfl,rfl,rfl] (AT (pv 2)) %["sentence"|122] (λc1=>Bk) (λc1=>(Ax (G3 de) hr Al (AI (pv 0))))))))))))))),?_]
 refine#[st,m,xs,ts,rfl,hS,hP,λt ht=>#[(hok t ht).1,by have:=(hok t ht).2;omega],dZ,dR,λh1 H' s'=>qS h1 H' (Aj s'),λh1 h2 H' s'=>qW h1 h2 H' (Aj s'),λh1 h2 sp H2 s2 jS fB=>?_];have b2:But [x] H H2:=Aj s2;have x2:=s2 _ _ hx;have gi:sp≠x:=(Ai hx jS).symm;refine#[x2,de.HX.cl,de.HX.space,%[|2],?_];obtain⟨b3,x3,c3⟩:=Bt (C:=cH) (dx:=dx) (f:="space") (v:=.ref sp) (fs:=[]) (fs':=[%[|44]]) %[|32] b2;generalize upd H2 x _=H3 at*;have sp3:=c3.at fB (Bg gi);refine#[x3,de.HX.cl,de.HX.many,(by show 1<1000;decide),?_];obtain⟨b4,x4,c4⟩:=Bt (C:=cH) (dx:=dx) (f:="many") (v:=.int m) (fs:=[%[|44]]) (fs':=[%[|44],("many",.int m)]) %[|32] b3;generalize upd H3 x _=H4 at*;have sp4:=c4.at sp3 (Bg gi);refine#[OP,λnl fq=>?_];have s5:=Ab fq (.lst [.non]);have nl5:upd H4 nl (.lst [.non]) nl=some (.lst [.non]):=A0A;generalize upd H4 nl _=H5 at*;refine#[nl,(m:Int),_,rfl,rfl,nl5,by omega,by omega,by show 1*((m:Int)).toNat<=sizeLine;exact zAC (by omega:1*((m:Int)).toNat<=5) %[|2],λmk d9=>?_];rw[SG];have s6:=Ab d9 %[|77];have mk6:upd H5 mk %[|77] mk=some %[|77]:=A0A;generalize upd H5 mk _=H6 at*;have s46:=s5.trans s6;have x6:=s46 _ _ x4;have nmx:mk≠x:=(Ai (s5 _ _ x4) d9).symm;have b6:But [x] H H6:=b4.trans (Aj s46);refine#[x6,de.HX.cl,de.HX.marks,(by show 2<1000;decide),?_];obtain⟨b7,x7,c7⟩:=Bt (C:=cH) (dx:=dx) (f:="marks") (v:=.ref mk) (fs:=[%[|44],("many",.int m)]) (fs':=[%[|44],("many",.int m),("marks",.ref mk)]) %[|32] b6;generalize upd H6 x _=H7 at*;have sp7:=c7.at (s46 _ _ sp4) (Bg gi);have mk7:=c7.at mk6 (Bg nmx);refineλtk htk=>?_
 have s8:=Ab htk (.dK []);have tk8:upd H7 tk (.dK []) tk=some (.dK []):=A0A;generalize upd H7 tk _=H8 at*;have x8:=s8 _ _ x7;have ntx:tk≠x:=(Ai x7 htk).symm;have b8:But [x] H H8:=b7.trans (Aj s8);refine#[x8,de.HX.cl,de.HX.talks,(by show 3<1000;decide),?_];obtain⟨b9,x9,c9⟩:=Bt (C:=cH) (dx:=dx) (f:="talks") (v:=.ref tk) (fs:=[%[|44],("many",.int m),("marks",.ref mk)]) (fs':=[%[|44],("many",.int m),("marks",.ref mk),("talks",.ref tk)]) %[|32] b8;generalize upd H8 x _=H9 at*;have sp9:=c9.at (s8 _ _ sp7) (Bg gi);have mk9:=c9.at (s8 _ _ mk7) (Bg nmx);have tk9:=c9.at tk8 (Bg ntx);refine#[GD,λln fw=>?_];have gp:=Ab fw %[|9];have ln10:upd H9 ln %[|9] ln=some %[|9]:=A0A;generalize upd H9 ln _=fV at*;have x10:=gp _ _ x9;have nlx:ln≠x:=(Ai x9 fw).symm;have b10:But [x] H fV:=b9.trans (Aj gp);refine#[x10,de.HX.cl,de.HX.lines,(by show 4<1000;decide),?_];obtain⟨ip,jy,c11⟩:=Bt (C:=cH) (dx:=dx) (f:="lines") (v:=.ref ln) (fs:=[%[|44],("many",.int m),("marks",.ref mk),("talks",.ref tk)]) (fs':=[%[|44],("many",.int m),("marks",.ref mk),("talks",.ref tk),("lines",.ref ln)]) %[|32] b10;generalize upd fV x _=gm at*;have sp11:=c11.at (gp _ _ sp9) (Bg gi);have mk11:=c11.at (gp _ _ mk9) (Bg nmx);have tk11:=c11.at (gp _ _ tk9) (Bg ntx);have ln11:=c11.at ln10 (Bg nlx);have st11:=ip.at hS (Bg kD);obtain⟨U,hU⟩:∃U:Hk,U=⟨dx,sp,mk,tk,ln⟩:=#[_,rfl];have jy:gm x=some (.ins cH U.dx (De U m)):=by rw[hU];exact jy
 refine#[jy,CK,?_];refine#[(m:Int),rfl,by omega,by omega,C4,λal gf=>?_];have eE:=Ab gf %[|88];have al12:upd gm al %[|88] al=some %[|88]:=A0A;generalize upd gm al _=i8 at*;have b12:But [x] H i8:=ip.trans (Aj eE);have hP12:=A0J.keep (kt b12) hP;refine#[#[_,SqL.of (eE _ _ st11)],λcc acc dq=>IF (vs:=ts.map λt=>V.str (Ch t)) (rest:=[]) (SqL.of (eE _ _ st11)) dq %[|0] %[|58] (λi y b hy hb jt fj R hR=>?_) (λv0 jt fj hac=>?_) none]
 ·obtain⟨t,ht,dN⟩:=B5 hP12 hy;obtain⟨o1,o2⟩:=hok t (zAJ ht);rw[List.getElem?_map,ht]at hb;cases hb;refine#[y,t,rfl,dN.keep (TS.same fj),o1,o2,λz fk hz fv=>?_];rw[FP hz];exact hR fk fv
 have al13:=fj _ _ al12
 have l2:%[|73].length<=1000:=by
  rw[zA,List.length_map];show 2+ts.length<=1000;omega
 refine#[al,acc,_,_,rfl,rfl,al13,hac,Dv (by rw[zA]at l2;exact l2),λcl fR=>?_];have fv:=Ab fR (.lst %[|73]);have cl14:upd jt cl (.lst %[|73]) cl=some (.lst %[|73]):=A0A;generalize upd jt cl _=fk at*;have ei:=eE.trans (fj.trans fv);have b14:But [x] H fk:=ip.trans (Aj ei)
 have ew:%[|73]=%[|101].map V.str:=by
  rw[zAS,zAS,zA0];rfl
 rw[ew]at cl14;have hsum:=FY (ts:=ts) λt ht=>zAC (hok t ht).2 %[|2]
 have hdig:=Ji dR;have eU:U.ln=ln:=by rw[hU]
 refine#[x,cl,U,m,_,[],rfl,ei _ _ jy,by rw[eU];exact ei _ _ ln11,by decide,cl14,?_,?_]
 ·rw[zAS,zAS,zBQ,zBQ,zAO,zAO,List.length_map];have e5:(Str.ofString "house").length=5:=rfl;show (Str.ofString "house").length+((Str.ofString (toString (m:Int))).length+((ts.map Ch).map (·.length)).sum)+(ts.length+1+1)<=100000;omega
 have back:∀{H1:Hp}{c:Addr},But [x] H H1->c≠x->H1 c=none->H c=none:=λ{H1 c} b n e=>by
  cases e0:H c with
  |none=>rfl
  |some o=>rw[b.at e0 (Bg n)]at e;cases e
 have mk0:H mk=none:=back (b4.trans (Aj s5)) nmx d9;have tk0:H tk=none:=back b7 ntx htk;have jW:H ln=none:=back b9 nlx fw;have nls:sp≠ln:=Ai sp9 fw;have nlm:mk≠ln:=Ai mk9 fw;have nlt:tk≠ln:=Ai tk9 fw
 have bq:But [x] H (upd fk U.ln (.lst ([]++[.str (BQ m ts)]))):=λb o e=>by
  obtain⟨e1,e2⟩:=Bc e;rw[eU];exact AW (by rw[Af (λz=>by rw[z,jW]at e1;cases e1)];exact b14.at e1 e2) e2
 refine q h1 h2 U _ bq (by rw[hU];exact jS) (by rw[hU];exact mk0) (by rw[hU];exact tk0) (by rw[hU];exact jW) ?_ ?_ ?_ ?_ A0A
 ·rw[Af (by rw[eU];exact nlx.symm)];exact ei _ _ jy
 ·rw[hU];show upd fk ln _ sp=_;rw[Af nls];exact ei _ _ sp11
 ·rw[hU];show upd fk ln _ mk=_;rw[Af nlm];exact ei _ _ mk11
 ·rw[hU];show upd fk ln _ tk=_;rw[Af nlt];exact ei _ _ tk11
end
structure A0L(N:%[|3])(C:Addr)(H:Hp)(x:Addr)(U:Hk)(m:Nat)(room:List Int)(marks:List (%[|17]))(ls:List V):Prop where
 ob:H x=some (.ins C U.dx (De U m))
 ln:H U.ln=some (.lst ls)
 mx:x∈N
 ml:U.ln∈N
 sp:AK (A1 N H) U.sp room
 mkm:A1 N H U.mks=some (.lst (marks.map CA))
 len:marks.length=m
 m1:1<=m
 m5:m<=5
 wr:Wr room
 ne:room.filter (Dg marks)≠[]
 l9:ls.length<=900
section
variable {N:%[|3]}{C:Addr}{H H':Hp}{x:Addr}{U:Hk}{m:Nat}{room:List Int}{marks:List (%[|17])}{ls:List V}
theorem A0L.keep(s:A0B H H')(h:%[|76]):A0L N C H' x U m room marks ls:=
 #[s _ _ h.ob,s _ _ h.ln,h.mx,h.ml,Aj s _ _ h.sp,Aj s _ _ h.mkm,h.len,h.m1,h.m5,h.wr,h.ne,h.l9]
theorem A0L.sp'(h:%[|76]):AK H U.sp room:=A0D _ _ h.sp
theorem A0L.mk'(h:%[|76]):H U.mks=some (.lst (marks.map CA)):=A0D _ _ h.mkm
theorem A0L.xl(h:%[|76]):x≠U.ln:=AV h.ob h.ln %[|11]
end
theorem Kd:(De U m).lookup ("many":Str)=some (.int m):=by with_unfolding_all rfl
theorem Hb:(De U m).lookup ("marks":Str)=some (.ref U.mks):=by with_unfolding_all rfl
structure Tw where
 nm:Str
 a:Addr
 u:Tk
 w:Ta
structure HSt where
 x:Addr
 U:Hk
 m:Nat
 room:List Int
 marks:List (%[|17])
 ls:List V
 ts:List Tw
def EJ(ts:List Tw):List (Str×V):=ts.map λp=>(p.nm,.ref p.a)
def Kw(ts:List Tw):List Addr:=ts.flatMap λp=>[p.u.gv,p.u.lf]
def CM(ts:List Tw):List Str:=ts.map (·.nm)
theorem CF(h:p∈ts):p.u.gv∈Kw ts/\p.u.lf∈Kw ts:=
 #[List.mem_flatMap.mpr #[p,h,by simp],List.mem_flatMap.mpr #[p,h,by simp]]
theorem VC(h:a.Sublist b):(Kw a).Sublist (Kw b):=by
 induction h with
 |slnil=>exact zB3 _
 |cons x _ ih=>exact List.Sublist.trans ih (List.sublist_append_right [x.u.gv,x.u.lf] _)
 |cons_cons x _ ih=>exact List.Sublist.append (zB3 [x.u.gv,x.u.lf]) ih
theorem Kk:∀{ts:List Tw}{k:Str},k∈CM ts->∃p∈ts,p.nm=k/\BH (EJ ts) k=some (.ref p.a)
 |[],_,h=>nomatch h
 |p::ts,k,h=>by
  by_cases e:p.nm=k
  ·exact#[p,List.mem_cons_self,e,by simp[BH,EJ,e]]
  ·obtain⟨q,hq,e1,e2⟩:=Kk (ts:=ts) (k:=k) (by
    rcases List.mem_cons.mp h with z|z
    ·exact absurd z.symm e
    ·exact z)
   refine#[q,List.mem_cons_of_mem _ hq,e1,?_];have:BH (EJ (p::ts)) k=BH (EJ ts) k:=by simp[BH,EJ,List.find?_cons,e]
   rw[this];exact e2
theorem GI:∀{ts:List Tw}{k:Str},k∉CM ts->BH (EJ ts) k=none
 |[],_,_=>rfl
 |p::ts,k,h=>by
  have e:¬p.nm=k:=λz=>h (by rw[<-z];exact List.mem_cons_self)
  have:BH (EJ (p::ts)) k=BH (EJ ts) k:=by simp[BH,EJ,List.find?_cons,e]
  rw[this];exact GI λz=>h %[z|116]
theorem P5(ts:List Tw)(k:Str):(BH (EJ ts) k).isSome=decide (k∈CM ts):=by
 by_cases h:k∈CM ts
 ·obtain⟨p,_,_,e⟩:=Kk h;rw[e,decide_eq_true h];rfl
 ·rw[GI h,decide_eq_false h];rfl
theorem YO(ts:List Tw)(k:Str):Rt (EJ ts) k=EJ (ts.filter λp=>decide (p.nm≠k)):=by
 unfold Rt EJ;rw[List.filter_map];rfl
structure A0C(M:%[|3])(C cK:Addr)(H:Hp)(S:HSt):Prop where
 h:A0L M C H S.x S.U S.m S.room S.marks S.ls
 tk:H S.U.tk=some (.dK (dS (EJ S.ts)))
 mt:S.U.tk∈M
 tt:∀p∈S.ts,A0E M cK H p.a p.u p.w/\p.w.room=S.room/\p.w.many=S.m
 nl:(S.U.ln::Kw S.ts).Nodup
 na:(CM S.ts).Nodup
 aa:(S.ts.map (·.a)).Nodup
 fr:∀b∈M,H b≠none
 tl:S.ts.length<=900
section
variable {M N:%[|3]}{C:Addr}{H H':Hp}{S:HSt}{x:Addr}{U:Hk}{m:Nat}{room:List Int}{marks:List (%[|17])}{ls:List V}
theorem C0(s:A0B H H')(hn:∀n∈N,H n=none):A0B (A1 M H) (A1 (N++M) H'):=λp u e=>by
 obtain⟨e1,e2⟩:=Bc e;refine AW (s _ _ e1) λz=>?_
 rcases List.mem_append.mp z with q|q
 ·rw[hn p q]at e1;cases e1
 ·exact e2 q
theorem A0L.more(h:A0L M C H x U m room marks ls)(s:A0B H H')(hn:∀n∈N,H n=none):A0L (N++M) C H' x U m room marks ls:=by
 have k:=C0 (M:=M) s hn;exact#[s _ _ h.ob,s _ _ h.ln,zAE _ h.mx,zAE _ h.ml,k _ _ h.sp,k _ _ h.mkm,h.len,h.m1,h.m5,h.wr,h.ne,h.l9]
theorem A0C.keep(s:A0B H H')(h:%[|21]):A0C M C cK H' S:=
 #[h.h.keep s,s _ _ h.tk,h.mt,λp hp=>#[(h.tt p hp).1.keep s,(h.tt p hp).2],h.nl,h.na,h.aa,λb hb z=>h.fr b hb (s.free z),h.tl]
theorem A0C.wrote(h:%[|21])(l:V)(hl:S.ls.length<900):A0C M C cK (upd H S.U.ln (.lst (S.ls++[l]))) {S with ls:=S.ls++[l]}:=by
 have hx:=h.h;have eu:A1 M (upd H S.U.ln (.lst (S.ls++[l])))=A1 M H:=BA hx.ml;refine#[#[by rw[Af hx.xl];exact hx.ob,A0A,hx.mx,hx.ml,by rw[eu];exact hx.sp,by rw[eu];exact hx.mkm,hx.len,hx.m1,hx.m5,hx.wr,hx.ne,by show (S.ls++[l]).length<=900;rw[zA];exact hl],?_,h.mt,λp hp=>#[?_,(h.tt p hp).2],h.nl,h.na,h.aa,λb hb=>?_,h.tl]
 ·exact (Af (AV h.tk hx.ln %[|11])).trans h.tk
 ·have ht:=(h.tt p hp).1;have nl:=(List.nodup_cons.mp h.nl).1;have n1:p.u.gv≠S.U.ln:=λz=>nl (by rw[<-z];exact (CF hp).1)
  have n2:p.u.lf≠S.U.ln:=λz=>nl (by rw[<-z];exact (CF hp).2)
  exact ht.but (But.upd hx.ml) (Af (AV ht.ob hx.ln %[|11])) (Af n1) (Af n2)
 ·by_cases e:b=S.U.ln
  ·rw[e,A0A];exactλz=>by cases z
  ·rw[Af e];exact h.fr b hb
theorem A0C.put(h:A0L M C H S.x S.U S.m S.room S.marks S.ls)(e:H S.U.tk=some (.dK d0))(mt:S.U.tk∈M)(tt:∀p∈ts,A0E M cK H p.a p.u p.w/\p.w.room=S.room/\p.w.many=S.m)(nl:(S.U.ln::Kw ts).Nodup)(na:(CM ts).Nodup)(aa:(ts.map (·.a)).Nodup)(fr:∀b∈M,H b≠none)(tl:ts.length<=900):A0C M C cK (upd H S.U.tk (.dK (dS (EJ ts)))) {S with ts:=ts}:=by
 have eu:A1 M (upd H S.U.tk (.dK (dS (EJ ts))))=A1 M H:=BA mt;refine#[#[(Af (AV h.ob e %[|11])).trans h.ob,(Af (AV h.ln e %[|11])).trans h.ln,h.mx,h.ml,by rw[eu];exact h.sp,by rw[eu];exact h.mkm,h.len,h.m1,h.m5,h.wr,h.ne,h.l9],A0A,mt,λp hp=>#[?_,(tt p hp).2],nl,na,aa,λb hb=>?_,tl]
 ·have ht:=(tt p hp).1;exact ht.but (But.upd mt) (Af (AV ht.ob e %[|11])) (Af (AV ht.gv e %[|11])) (Af (AV ht.lf e %[|11]))
 ·by_cases c:b=S.U.tk
  ·rw[c,A0A];exactλz=>by cases z
  ·rw[Af c];exact fr b hb
theorem A0C.more{n:Str}{a:Addr}{u:Tk}{w:Ta}(h:%[|21])(s:A0B H H')(a0:H a=none)(g0:H u.gv=none)(l0:H u.lf=none)(ht:A0E (a::u.gv::u.lf::M) cK H' a u w)(hr:w.room=S.room)(hm:w.many=S.m)(hn:n∉CM S.ts)(hl:S.ts.length<900):
  A0C (a::u.gv::u.lf::M) C cK (upd H' S.U.tk (.dK (dS (EJ (S.ts++[#[n,a,u,w]]))))) {S with ts:=S.ts++[#[n,a,u,w]]}:=by
 have hN:∀b∈[a,u.gv,u.lf],H b=none:=λb hb=>by
  simp only[zAD,zAB,or_false]at hb;rcases hb with rfl|rfl|rfl
  ·exact a0
  ·exact g0
  ·exact l0
 have gW:∀p∈S.ts,H p.u.gv≠none/\H p.u.lf≠none/\H p.a≠none:=λp hp=>by
  have t:=(h.tt p hp).1;refine#[?_,?_,?_]<;>intro z
  ·rw[t.gv]at z;cases z
  ·rw[t.lf]at z;cases z
  ·rw[t.ob]at z;cases z
 refine A0C.put (S:=S) (h.h.more (N:=[a,u.gv,u.lf]) s hN) (s _ _ h.tk) (zAE [a,u.gv,u.lf] h.mt) (λp hp=>?_) ?_ ?_ ?_ (λb hb=>?_) ?_
 ·rcases List.mem_append.mp hp with q|q
  ·exact#[(h.tt p q).1.cutmore (N:=[a,u.gv,u.lf]) s hN,(h.tt p q).2]
  ·rw[List.mem_singleton.mp q];exact#[ht,hr,hm]
 ·have e:S.U.ln::Kw (S.ts++[#[n,a,u,w]])=(S.U.ln::Kw S.ts)++[u.gv,u.lf]:=by
   unfold Kw;rw[List.flatMap_append];rfl
  rw[e]
  have fG:∀b∈S.U.ln::Kw S.ts,H b≠none:=λb hb z=>by
   rcases List.mem_cons.mp hb with q|q
   ·rw[q,h.h.ln]at z;cases z
   ·obtain⟨p,hp,q2⟩:=List.mem_flatMap.mp q;simp only[zAD,zAB,or_false]at q2;rcases q2 with rfl|rfl
    ·exact (gW p hp).1 z
    ·exact (gW p hp).2.1 z
  refine List.nodup_append.mpr #[h.nl,?_,λb hb c hc=>?_]
  ·exact List.nodup_cons.mpr #[λz=>ht.ne (List.mem_singleton.mp z),List.nodup_cons.mpr #[(λz=>by cases z),zBI]]
  ·rintro rfl;exists 609
   ·exact fG _ hb g0
   ·exact fG _ hb l0
 ·show ((S.ts++[(#[n,a,u,w]:Tw)]).map Tw.nm).Nodup;rw[List.map_append];refine List.nodup_append.mpr #[h.na,List.nodup_cons.mpr #[(λz=>by cases z),zBI],λb hb c hc=>?_];rintro rfl;rw[List.mem_singleton.mp hc]at hb;exact hn hb
 ·rw[List.map_append];refine List.nodup_append.mpr #[h.aa,List.nodup_cons.mpr #[(λz=>by cases z),zBI],λb hb c hc=>?_];rintro rfl;rw[List.mem_singleton.mp hc]at hb;obtain⟨p,hp,e⟩:=List.mem_map.mp hb;exact (gW p hp).2.2 (by rw[e];exact a0)
 ·intro z;simp only[zAD]at hb;rcases hb with rfl|rfl|rfl|hb
  ·rw[ht.ob]at z;cases z
  ·rw[ht.gv]at z;cases z
  ·rw[ht.lf]at z;cases z
  ·exact h.fr b hb (s.free z)
 ·rw[zA];exact hl
theorem A0C.less(h:%[|21])(k:Str):A0C M C cK (upd H S.U.tk (.dK (dS (EJ (S.ts.filter λp=>decide (p.nm≠k)))))) {S with ts:=S.ts.filter λp=>decide (p.nm≠k)}:=by
 have sub:(S.ts.filter λp=>decide (p.nm≠k)).Sublist S.ts:=zAM;refine A0C.put (S:=S) h.h h.tk h.mt (λp hp=>h.tt p (sub.subset hp)) ?_ ((sub.map _).nodup h.na) ((sub.map _).nodup h.aa) h.fr (zAC sub.length_le h.tl);exact (List.Sublist.cons_cons _ (VC sub)).nodup h.nl
end
theorem CZ:(De U m).lookup ("talks":Str)=some (.ref U.tk):=by with_unfolding_all rfl
theorem He:(De U m).lookup ("refuse_new_name":Str)=none:=by with_unfolding_all rfl
theorem Js:(De U m).lookup ("refuse_no_talk":Str)=none:=by with_unfolding_all rfl
theorem BU:(De U m).lookup ("talk_of":Str)=none:=by with_unfolding_all rfl
theorem LX:(De U m).lookup ("names":Str)=none:=by with_unfolding_all rfl
theorem We:(De U m).lookup ("drop":Str)=none:=by with_unfolding_all rfl
theorem Tx:(De U m).lookup ("begin":Str)=none:=by with_unfolding_all rfl
theorem Wc:(De U m).lookup ("fork":Str)=none:=by with_unfolding_all rfl
def Dv(c:Nat):Bool:=decide (97<=c/\c<=122)
def A0H(k:Str):Prop:=1<=k.length/\k.length<=8/\k.cps.toList.all Dv=true
instance(k:Str):Decidable (A0H k):=by unfold A0H;infer_instance
theorem ZG:∀c:Nat,c<128->(!(Builtin.Str.occurrences ("abcdefghijklmnopqrstuvwxyz":Str) (#[#v[c]]:Str) 0 ("abcdefghijklmnopqrstuvwxyz":Str).length 1).isEmpty)=Dv c:=by decide +kernel
theorem Nq(dq:H acc=none)(dj:z.length<=900)(ht:∀c,c∈z.cps.toList->∀H2,A0B H H2->∀R:V->Hp->Prop,(∀H3,A0B H2 H3->R (.bl (f c)) H3)->te (some (.str #[#v[c]])::rest) H2 R)(hd:∀v0 H2,A0B H H2->H2 acc=some (.lst ((z.cps.toList.map f).map V.bl))->D.nx (v0::rest) H2)(v:Option V):
  Ek (ZV z) (Cr 0) (Du MB (Dm acc te)) D (v::rest) (upd H acc %[|9]):=by
 refine W2 (z:=z) %[(((z.cps.toList.take i).map f).map V.bl)|119] #[v,rfl,Ab dq _,A0A] ?_ ?_
 ·rintro i c σ H2 hx ⟨v0,rfl,s2,dL⟩;have hc:z.cps.toList[i]? = some c:=by simpa using hx
  have hi:i<z.cps.toList.length:=%[hc|117].1;have hlz:z.cps.toList.length=z.length:=by simp[Str.length]
  refine AD ?_;refine ht c (zAJ hc) H2 s2 _ λH3 s3=>?_
  refine#[_,s3 _ _ dL,An ?_,?_]
  ·rw[List.length_map,List.length_map,zAW];omega
  refine#[_,rfl,Ao (s2.trans s3) dq _,?_];rw[A0A,zAQ,hc,List.map_append,List.map_append];rfl
 ·rintro σ H2 ⟨v0,rfl,s2,dL⟩;have hlz:z.length=z.cps.toList.length:=by simp[Str.length]
  rw[hlz,zAP]at dL;exact hd v0 H2 s2 dL
inductive Ig(C cK dr dn:Addr)(vs:List V)(H:Hp)(Q:VK)(E:XK):Prop|mk(M:%[|3])(S:HSt)(k:Str)(_:vs=[.ref S.x,.str k])(_:%[|21])(_:k.length<=100)(_:(∀c∈k.cps.toList,c<128))(_:(¬A0H k->∀H',A0B H H'->E (.ref dr) none H'))(_:(A0H k->k∈CM S.ts->∀H',A0B H H'->E (.ref dn) none H'))(_:(A0H k->k∉CM S.ts->∀H',A0B H H'->Q .non H'))
inductive Jg(C cK dg:Addr)(vs:List V)(H:Hp)(Q:VK)(E:XK):Prop|mk(M:%[|3])(S:HSt)(k:Str)(_:vs=[.ref S.x,.str k])(_:%[|21])(_:%[|66])(_:(k∈CM S.ts->Q .non H))
inductive IN(C cK dg:Addr)(vs:List V)(H:Hp)(Q:VK)(E:XK):Prop|mk(M:%[|3])(S:HSt)(k:Str)(_:vs=[.ref S.x,.str k])(_:%[|21])(_:%[|66])(_:(∀p∈S.ts,p.nm=k->Q (.ref p.a) H))
inductive Md(C cK:Addr)(vs:List V)(H:Hp)(Q:VK)(E:XK):Prop|mk(M:%[|3])(S:HSt)(_:vs=[.ref S.x])(_:%[|21])(_:∀(l:Addr)(H':Hp),A0B H H'->H l=none->H' l=some (.lst ((CM S.ts).map V.str))->Q (.ref l) H')
def Hr(S:HSt)(k:Str):HSt:={S with ts:=S.ts.filter λp=>decide (p.nm≠k),ls:=S.ls++[.str (AE ["drop",k])]}
inductive OS(C cK dg:Addr)(vs:List V)(H:Hp)(Q:VK)(E:XK):Prop|mk(M:%[|3])(S:HSt)(k:Str)(_:vs=[.ref S.x,.str k])(_:%[|21])(_:k.length<=100)(_:S.ls.length<900)(_:%[|66])(_:(k∈CM S.ts->∀H',But [S.U.tk,S.U.ln] H H'->A0C M C cK H' (Hr S k)->Q .non H'))
section
variable {f:Addr}
def Nl:=Au ID ["self","name"] 2
def Rb:=Au LK ["self","name"] 2
def Qw:=Au KY ["self","name"] 2
def T9:=Au Pz ["self"] 1
def VJ:=Au U1 ["self","name"] 2
theorem Hn(de:%[|5]):%[|39] "refuse_no_talk" (EI P w) 2 (Jg cH cK dg):=by
 refine de.h50.okX Rb ?_;rintro bz f dm A outer s H _ Q E hr ⟨M,S,k,rfl,hT,qE,q⟩
 refine#[_,Ak (Aq (Cp Q8 (pv 1) %[|13] %[|32])
   (Ak (Br (Ex:=E) BI rfl de.X_NoTalk.cls de.X_NoTalk.at_ de.X_NoTalk.ty %[|10] de.X_NoTalk.m (AI Ae) (hvl:=λ_ _ _ h=>#[by decide,h])))
   Ah),?_]
 refine#[hT.h.ob,de.HX.cl,de.HX.talks,CZ,S.U.tk,_,k,rfl,rfl,hT.tk,?_];rw[P5];by_cases c:k∈CM S.ts
 ·rw[decide_eq_true c];exact Aw (q c)
 ·rw[decide_eq_false c];exact AD (qE c)
theorem BG(de:%[|5]):%[|39] "talk_of" (EI P w) 3 (IN cH cK dg):=by
 refine de.h51.okX Qw ?_;rintro bz f dm A outer s H _ Q E hr ⟨M,S,k,rfl,hT,qE,q⟩
 refine#[_,Aa (As %[(Hn de)|118])
  (AX (Am Az %[|13] (pv 1))),?_]
 refine#[hT.h.ob,Js,M,S,k,rfl,hT,λc=>qE c,λc=>?_];obtain⟨p,hp,e1,e2⟩:=Kk c;exact#[hT.h.ob,de.HX.cl,de.HX.talks,CZ,hT.tk,e2,q p hp e1]
theorem IV(de:%[|5]):%[|39] "names" BC 1 (Md cH cK):=by
 refine de.h81.ok T9 ?_;rintro bz f dm A outer s H _ Q E hr ⟨M,S,rfl,hT,q⟩;refine#[_,AX (AJ (NG rfl) %[|10] de.T.lst Bh (AI %[|13])),?_];refine#[hT.h.ob,de.HX.cl,de.HX.talks,CZ,S.U.tk,_,rfl,hT.tk,λl hl=>q l _ (Ab hl _) hl ?_];rw[A0A];unfold EJ CM;rw[zA0,zA0];rfl
theorem RV(de:%[|5]):%[|39] "drop" (EI P w) 3 (OS cH cK dg):=by
 refine de.h75.okX VJ ?_;rintro bz f dm A outer s H _ Q E hr ⟨M,S,k,rfl,hT,io,fW,qE,q⟩
 refine#[_,Aa (As %[(Hn de)|118])
  (Aa (As (Eh PySem.F.plainAttrs_dict PySem.F.slot_dict_pop PySem.F.type_dict_pop Wl %[|13] (AI (pv 1))))
  (Ak (As (By (pv 0) de.HX.cl (Cg de) hr Al (AI (Av (AN Ae (pv 1)))))))),?_]
 refine#[hT.h.ob,Js,M,S,k,rfl,hT,λc=>qE c,λc=>?_];obtain⟨p,hp,e1,e2⟩:=Kk c;refine#[hT.h.ob,de.HX.cl,de.HX.talks,CZ,?_,S.U.tk,_,k,_,rfl,rfl,hT.tk,e2,?_]
 ·exact .inr (.inr (.inl #[rfl,.inl #[_,hT.tk]]))
 rw[YO];have eA:=hT.less k;have b1:But [S.U.tk,S.U.ln] H (upd H S.U.tk (.dK (dS (EJ (S.ts.filter λp=>decide (p.nm≠k)))))):=But.upd %[|1];generalize upd H S.U.tk _=H1 at*;refine#[eA.h.ob,CK,C4,λl hl=>?_];have s2:=Ab hl (.lst [.str "drop",.str k]);have l2:upd H1 l (.lst [.str "drop",.str k]) l=some (.lst ([("drop":Str),k].map V.str)):=A0A;generalize upd H1 l _=H2 at*;have eB:=eA.keep s2;refine#[S.x,l,S.U,S.m,[("drop":Str),k],S.ls,rfl,eB.h.ob,eB.h.ln,by omega,l2,?_,?_]
 ·show ("drop":Str).length+(k.length+0)+2<=100000;have:("drop":Str).length=4:=rfl;omega
 have iq:=eB.wrote (.str (AE ["drop",k])) fW;exact q c _ ((b1.trans (Aj s2)).trans (But.upd %[|1])) iq
theorem Gz(de:%[|5]):%[|39] "refuse_new_name" (EI P w) 2 (Ig cH cK dr dn):=by
 refine de.h35.okX Nl ?_;rintro bz f dm A outer s H _ Q E hr ⟨M,S,k,rfl,hT,io,gD,qB,qN,q⟩
 refine#[_,Aa (Aq (PW.pt (HB (Ct (UJ XN XN Ad (AQ Kb %[|10] de.B.len zBC (AI (pv 1))) (Es (v:=.int 8) %[|10] de.bLN #[_,rfl]))) (E5 (Ct (Bv (AQ (Dp rfl) %[|10] de.T.all boot_all (AI (PE.nox (A8 (N:=["sign"]) (js:=[none]) (cl:=[]) #[rfl,rfl,rfl,zBU _,rfl,rfl,rfl] (Ym (pv 1)) %["sign"|122] (λc1=>Bk) (λc1=>(BF Ry (pv 0) (Es (v:=.str "abcdefghijklmnopqrstuvwxyz") %[|10] de.bNS #[_,rfl]) %[|32])))))))))))
   (Ak (Br (Ex:=E) BI rfl de.X_BadName.cls de.X_BadName.at_ de.X_BadName.ty %[|10] de.X_BadName.m (AI Ae) (hvl:=λ_ _ _ h=>#[by decide,h])))
   Ah)
  (Ak (Aq (Cp Ye (pv 1) %[|13] %[|32])
   (Ak (Br (Ex:=E) BI rfl de.X_NameTaken.cls de.X_NameTaken.at_ de.X_NameTaken.ty %[|10] de.X_NameTaken.m (AI Ae) (hvl:=λ_ _ _ h=>#[by decide,h])))
   Ah)),?_]
 have dj:k.length<=sizeLine:=zAC io %[|2];have jb:¬(1<=k.length/\k.length<=8)->¬A0H k:=λh g=>h #[g.1,g.2.1]
 refine#[k,rfl,dj,_,rfl,Cb (λc1=>?_) (λc1=>?_)]
 ·refine Cb (λc2=>?_) (λc2=>?_)
  ·exact AD (qB (jb λz=>by simp at c2;omega) H (A0B.refl _))
  ·have fG:1<=k.length/\k.length<=8:=by simp at c1 c2;omega
   refine#[k,rfl,λcc acc dq=>Nq (f:=Dv) dq (zAC io %[|2]) (λc hc H2 s2 R hR=>?_) (λv0 H2 s2 ha=>?_) _]
   ·refine#[_,_,rfl,rfl,?_];rw[ZG c (gD c hc)];exact hR H2 (A0B.refl _)
   refine#[acc,_,rfl,SqL.of ha,Cb (λc3=>?_) (λc3=>?_)]
   ·exact qB (λg=>by
     have:=g.2.2
     rw[zDD]at c3
     simp at c3 this
     obtain⟨c,hc,jN⟩:=c3
     rw[this c hc]at jN
     cases jN) H2 s2
   have hg:A0H k:=#[fG.1,fG.2,by
    rw[zDD]at c3
    simp at c3
    simpa using c3]
   have eB:=hT.keep s2;refine#[eB.h.ob,de.HX.cl,de.HX.talks,CZ,S.U.tk,_,k,rfl,rfl,eB.tk,?_];rw[P5];by_cases c:k∈CM S.ts
   ·rw[decide_eq_true c];exact AD (qN hg c H2 s2)
   ·rw[decide_eq_false c];exact Aw (q hg c H2 s2)
 ·exact AD (AD (qB (jb λz=>by simp at c1;omega) H (A0B.refl _)))
end
def LS(S:HSt)(p:Tw)(l:Str):HSt:={S with ts:=S.ts++[p],ls:=S.ls++[.str l]}
inductive LH(C cK dr dn cS cB cN:Addr)(vs:List V)(H:Hp)(Q:VK)(E:XK):Prop|mk(M:%[|3])(S:HSt)(n kind rule:Str)(v:V)(t:Tr)(_:vs=[.ref S.x,.str n,.str kind,v,.str rule])(_:%[|21])(_:n.length<=100)(_:(∀c∈n.cps.toList,c<128))(_:t.At (A1 M H) v)(_:t.ok 5)(_:t.size<=23)(_:kind.length<=100)(_:rule.length<=100)(_:S.ls.length<900)(_:S.ts.length<900)(_:(¬A0H n->∀H',A0B H H'->E (.ref dr) none H'))(_:(A0H n->n∈CM S.ts->∀H',A0B H H'->E (.ref dn) none H'))(_:(A0H n->n∉CM S.ts->¬t.ok S.m->∀H',A0B H H'->E (.ref cS) none H'))(_:(A0H n->n∉CM S.ts->t.ok S.m->¬(Cc rule/\BK kind)->∀H',A0B H H'->E (.ref cB) none H'))(_:(A0H n->n∉CM S.ts->t.ok S.m->Cc rule->BK kind->[]∈AS kind t S.room->∀H',A0B H H'->E (.ref cN) none H'))(_:(A0H n->n∉CM S.ts->t.ok S.m->Cc rule->BK kind->[]∉AS kind t S.room->∀(a:Addr)(u:Tk)(H':Hp),But [S.U.tk,S.U.ln] H H'->H a=none->H u.gv=none->H u.lf=none->A0C (a::u.gv::u.lf::M) C cK H' (LS S ⟨n,a,u,BX S.m kind rule t S.room⟩ (AE ["begin",n,rule,kind,Ch t]))->Q .non H'))
inductive OU(C cK dg dr dn:Addr)(vs:List V)(H:Hp)(Q:VK)(E:XK):Prop|mk(M:%[|3])(S:HSt)(k n:Str)(_:vs=[.ref S.x,.str k,.str n])(_:%[|21])(_:k.length<=100)(_:n.length<=100)(_:(∀c∈n.cps.toList,c<128))(_:S.ls.length<900)(_:S.ts.length<900)(_:%[|66])(_:(k∈CM S.ts->¬A0H n->∀H',A0B H H'->E (.ref dr) none H'))(_:(k∈CM S.ts->A0H n->n∈CM S.ts->∀H',A0B H H'->E (.ref dn) none H'))(_:(∀p∈S.ts,p.nm=k->A0H n->n∉CM S.ts->∀(a:Addr)(u:Tk)(H':Hp),But [S.U.tk,S.U.ln] H H'->H a=none->H u.gv=none->H u.lf=none->A0C (a::u.gv::u.lf::M) C cK H' (LS S ⟨n,a,u,p.w⟩ (AE ["fork",k,n]))->Q .non H'))
section
def SX:=Au Ps ["self","name","kind","sentence","rule"] 5
def scHFork:=Au Tb ["self","name","other","talk"] 3
theorem Rv(de:%[|5]):%[|39] "begin" (EI P w) 7 (LH cH cK dr dn cS cB cN):=by
 refine de.h49.okX SX ?_;rintro bz f dm A outer s H _ Q E hr ⟨M,S,n,kind,rule,v,t,rfl,hT,ji,gD,ha,eW,hsz,io,hr1',fW,ht9,qB,qN,qS,qW,qG,q⟩;have fJ:A0M 1 _:=hr.mono %[|2]
 refine#[_,Aa (As %[(Gz de)|118])
  (Aa (B8 (Yc (Mo de) hr %[|24] (Ag %[|13] (Ag %[|13] (Ag (pv 2) (AN (pv 3) (pv 4)))))) (B9 %[|13] (pv 1) LL))
  (Ak (As (By (pv 0) de.HX.cl (Cg de) hr Al (AI (Av (Ag Ae (Ag (pv 1) (Ag (pv 4) (AN (pv 2) (Ax (G3 de) fJ Al (AI (pv 3))))))))))))),?_]
 refine#[hT.h.ob,He,M,S,n,rfl,hT,ji,gD,λc=>qB c,λc c2=>qN c c2,λhg jd H1 s1=>?_];have eA:=hT.keep s1;have iC:=ha.keep (TS.same (Aj s1));refine#[eA.h.ob,de.HX.cl,de.HX.many,Kd,eA.h.ob,de.HX.cl,de.HX.space,D3,λx dx hx i9 ja=>?_];have sM:A0B H1 (upd (upd H1 dx (.own x)) x (.ins cK dx [])):=(Ab i9 _).trans (Ab (by rw[Af ja.symm];exact hx) _);have xM:x∉M:=λz=>eA.fr x z hx
 refine#[x,dx,S.U.sp,S.m,kind,rule,v,t,S.room,M,rfl,A0A,xM,λm hm z=>eA.fr m hm (sM.free z),iC.keep (TS.same (Aj sM)),eW,hsz,hT.h.m5,sM _ _ eA.h.sp',hT.h.wr,
  λc H' b=>qS hg jd c H' (s1.trans (CT hx i9 ja b)),λc c2 H' b=>qW hg jd c c2 H' (s1.trans (CT hx i9 ja b)),λc c2 c3 c4 H' b=>qG hg jd c c2 c3 c4 H' (s1.trans (CT hx i9 ja b)),λc c2 c3 c4 u H2 b2 gv0 lf0 jS esv ht=>#[rfl,?_]]
 have s2:A0B H1 H2:=CT hx i9 ja b2;obtain⟨gv1,_,_⟩:=Ce (C:=cK) gv0;obtain⟨lf1,_,_⟩:=Ce (C:=cK) lf0;have eB:=eA.keep s2;refine#[eB.h.ob,de.HX.cl,de.HX.talks,CZ,S.U.tk,_,n,rfl,rfl,eB.tk,GI jd,(by show (S.ts.map _).length<=1000;rw[List.length_map];omega),?_];have ed:EJ S.ts++[(n,V.ref x)]=EJ (S.ts++[#[n,x,u,BX S.m kind rule t S.room]]):=by unfold EJ;rw[List.map_append];rfl
 rw[ed];have iq:=eA.more (n:=n) s2 hx gv1 lf1 ht rfl rfl jd ht9;have b3:But [S.U.tk,S.U.ln] H (upd H2 S.U.tk (.dK (dS (EJ (S.ts++[#[n,x,u,BX S.m kind rule t S.room]]))))):=(Aj (s1.trans s2)).trans (But.upd %[|1])
 have gE:t.At (upd H2 S.U.tk (.dK (dS (EJ (S.ts++[#[n,x,u,BX S.m kind rule t S.room]]))))) v:=by
  have k:A0B (A1 M H) (A1 M (upd H2 S.U.tk (.dK (dS (EJ (S.ts++[#[n,x,u,BX S.m kind rule t S.room]])))))):=(Aj (s1.trans s2)).trans (But.upd hT.mt);exact ha.keep (TS.same (k.trans A0D))
 generalize upd H2 S.U.tk _=H3 at*;refine#[iq.h.ob,CK,v,t,rfl,gE,eW,hsz,λz H4 hz s4=>?_];have ez:=FP hz;subst ez;refine#[SK,λl hl=>?_];have s5:=Ab hl (.lst [.str "begin",.str n,.str rule,.str kind,.str (Ch t)]);have l5:upd H4 l (.lst [.str "begin",.str n,.str rule,.str kind,.str (Ch t)]) l=some (.lst ([("begin":Str),n,rule,kind,Ch t].map V.str)):=A0A;generalize upd H4 l _=H5 at*;have jX:=iq.keep (s4.trans s5);refine#[S.x,l,S.U,S.m,[("begin":Str),n,rule,kind,Ch t],S.ls,rfl,jX.h.ob,jX.h.ln,by omega,l5,?_,?_]
 ·show ("begin":Str).length+(n.length+(rule.length+(kind.length+((Ch t).length+0))))+5<=100000;have:("begin":Str).length=5:=rfl;have:=Fk t;omega
 have hT6:=jX.wrote (.str (AE ["begin",n,rule,kind,Ch t])) fW;exact q hg jd c c2 c3 c4 x u _ ((b3.trans (Aj (s4.trans s5))).trans (But.upd %[|1])) (s1.free hx) (s1.free gv1) (s1.free lf1) hT6
theorem SA(de:%[|5]):%[|39] "fork" (EI P w) 8 (OU cH cK dg dr dn):=by
 refine de.h53.okX scHFork ?_;rintro bz f dm A outer s H _ Q E hr ⟨M,S,k,n,rfl,hT,io,ji,gD,fW,ht9,qK,qB,qN,q⟩
 refine#[_,Aa (AC 3 scHFork.nd %[(BG de)|118])
  (Aa (As (By (pv 0) de.HX.cl (Gz de) hr %[|24] (AI (pv 2))))
  (Aa (B8 (B0 (pv 3) de.TX.cl (UL de) hr Al) (B9 %[|13] (pv 2) LL))
  (Ak (As (By (pv 0) de.HX.cl (Cg de) hr Al (AI (Av (Ag Ae (AN (pv 1) (pv 2)))))))))),?_]
 refine#[hT.h.ob,BU,M,S,k,rfl,hT,λc=>qK c,λp hp ep=>?_];have hkin:k∈CM S.ts:=by rw[<-ep];exact zA9 hp
 refine#[hT.h.ob,He,M,S,n,rfl,hT,ji,gD,λc=>qB hkin c,λc c2=>qN hkin c c2,λhg jd H1 s1=>?_];have eA:=hT.keep s1;have tp:=(eA.tt p hp);refine#[tp.1.ob,VS,p.a,M,p.u,p.w,rfl,tp.1,eA.fr,λa u H2 s2 a0 g0 l0 ht=>?_];have eB:=eA.keep s2;refine#[eB.h.ob,de.HX.cl,de.HX.talks,CZ,S.U.tk,_,n,rfl,rfl,eB.tk,GI jd,(by show (S.ts.map _).length<=1000;rw[List.length_map];omega),?_];have ed:EJ S.ts++[(n,V.ref a)]=EJ (S.ts++[#[n,a,u,p.w]]):=by unfold EJ;rw[List.map_append];rfl
 rw[ed];have iq:=eA.more (n:=n) s2 a0 g0 l0 ht tp.2.1 tp.2.2 jd ht9;have b3:But [S.U.tk,S.U.ln] H (upd H2 S.U.tk (.dK (dS (EJ (S.ts++[#[n,a,u,p.w]]))))):=(Aj (s1.trans s2)).trans (But.upd %[|1]);generalize upd H2 S.U.tk _=H3 at*;refine#[iq.h.ob,CK,ML,λl hl=>?_];have s4:=Ab hl (.lst [.str "fork",.str k,.str n]);have l4:upd H3 l (.lst [.str "fork",.str k,.str n]) l=some (.lst ([("fork":Str),k,n].map V.str)):=A0A;generalize upd H3 l _=H4 at*;have g8:=iq.keep s4;refine#[S.x,l,S.U,S.m,[("fork":Str),k,n],S.ls,rfl,g8.h.ob,g8.h.ln,by omega,l4,?_,?_]
 ·show ("fork":Str).length+(k.length+(n.length+0))+3<=100000;have:("fork":Str).length=4:=rfl;omega
 have jX:=g8.wrote (.str (AE ["fork",k,n])) fW;exact q p hp ep hg jd a u _ ((b3.trans (Aj s4)).trans (But.upd %[|1])) (s1.free a0) (s1.free g0) (s1.free l0) jX
end
theorem Fg:(De U m).lookup ("seen":Str)=none:=by with_unfolding_all rfl
theorem Ng:(De U m).lookup ("plainly":Str)=none:=by with_unfolding_all rfl
theorem Za:(De U m).lookup ("log":Str)=none:=by with_unfolding_all rfl
inductive PR(C:Addr)(vs:List V)(H:Hp)(Q:VK)(E:XK):Prop|mk(x:Addr)(N:%[|3])(U:Hk)(m:Nat)(room:List Int)(marks:List (%[|17]))(ls:List V)(_:vs=[.ref x])(_:%[|76])(_:∀(l:Addr)(H':Hp),A0B H H'->H l=none->AK H' l (room.filter (Dg marks))->Q (.ref l) H')
inductive RF(C:Addr)(vs:List V)(H:Hp)(Q:VK)(E:XK):Prop|mk(x:Addr)(N:%[|3])(U:Hk)(m:Nat)(room:List Int)(marks:List (%[|17]))(ls:List V)(_:vs=[.ref x])(_:%[|76])(_:∀(l:Addr)(H':Hp),A0B H H'->H l=none->H' l=some (.lst ls)->Q (.ref l) H')
section
def Wf:=Au RG ["self"] 1
def Yf:=Au XM ["self"] 1
theorem DZ(de:%[|5]):%[|39] "seen" BC 4 (PR cH):=by
 refine de.h69.ok Wf ?_;rintro bz f dm A outer s H _ Q E hr ⟨x,N,U,m,room,marks,ls,rfl,hT,q⟩;have hl:=hT.wr.len;have h1:=hT.len;have h5:=hT.m5;refine#[_,AX (Ax (IP de) hr Al (AN %[|13] %[|13])),?_];exact#[hT.ob,de.HX.cl,de.HX.space,D3,hT.ob,de.HX.cl,de.HX.marks,Hb,U.sp,U.mks,room,marks,rfl,SqL.of hT.sp',by omega,hT.mk',by omega,λl H' s' l0 hl=>q l H' s' l0 hl]
theorem WL(de:%[|5]):%[|39] "log" BC 1 (RF cH):=by
 refine de.h82.ok Yf ?_;rintro bz f dm A outer s H _ Q E hr ⟨x,N,U,m,room,marks,ls,rfl,hT,q⟩;refine#[_,AX (%[|63] (AI %[|13])),?_];exact#[hT.ob,de.HX.cl,de.HX.lines,Mn,.inl (SqL.of hT.ln),λl hl=>q l _ (Ab hl _) hl A0A]
end
theorem Y9:(De U m).lookup ("say":Str)=none:=by with_unfolding_all rfl
theorem YA:(De U m).lookup ("ask":Str)=none:=by with_unfolding_all rfl
theorem Wg:(De U m).lookup ("back":Str)=none:=by with_unfolding_all rfl
theorem YQ:(De U m).lookup ("end":Str)=none:=by with_unfolding_all rfl
theorem Ho:(De U m).lookup ("entries":Str)=none:=by with_unfolding_all rfl
theorem Op:(De U m).lookup ("held":Str)=none:=by with_unfolding_all rfl
theorem Ri:(De U m).lookup ("caught":Str)=none:=by with_unfolding_all rfl
theorem VT:(De U m).lookup ("over":Str)=none:=by with_unfolding_all rfl
def Dq(ts:List Tw)(k:Str)(u:Tk)(w:Ta):List Tw:=ts.map λp=>if p.nm=k then#[p.nm,p.a,u,w]else p
theorem Y7(ts:List Tw)(k:Str)(u:Tk)(w:Ta):EJ (Dq ts k u w)=EJ ts:=by
 unfold EJ Dq;rw[zA0];refine zB4 λp _=>?_
 show (%[|89].nm,V.ref %[|89].a)=_;split<;>rfl
theorem Uu(ts:List Tw)(k:Str)(u:Tk)(w:Ta):CM (Dq ts k u w)=CM ts:=by
 unfold CM Dq;rw[zA0];refine zB4 λp _=>?_
 show %[|89].nm=_;split<;>rfl
theorem Yo(ts:List Tw)(k:Str)(u:Tk)(w:Ta):(Dq ts k u w).map (·.a)=ts.map (·.a):=by
 unfold Dq;rw[zA0];refine zB4 λp _=>?_
 show %[|89].a=_;split<;>rfl
theorem Ub(ts:List Tw)(k:Str)(u:Tk)(w:Ta):(Dq ts k u w).length=ts.length:=List.length_map _
theorem Lc{ts:List Tw}{k:Str}{u:Tk}{w:Ta}{q:Tw}(h:q∈Dq ts k u w):(q∈ts/\q.nm≠k)\/∃p∈ts,p.nm=k/\q=#[p.nm,p.a,u,w]:=by
 obtain⟨p,hp,e⟩:=List.mem_map.mp h;by_cases c:p.nm=k
 ·rw[if_pos c]at e;exact .inr #[p,hp,c,e.symm]
 ·rw[if_neg c]at e;rw[<-e];exact .inl #[hp,c]
theorem TV{k:Str}{u:Tk}{w:Ta}:∀{ts:List Tw},(∀p∈ts,p.nm=k->u.gv=p.u.gv/\u.lf=p.u.lf)->Kw (Dq ts k u w)=Kw ts
 |[],_=>rfl
 |p::ts,h=>by
  have ih:=TV (k:=k) (u:=u) (w:=w) (ts:=ts) λq hq=>h q %[hq|116]
  have e:Kw (Dq (p::ts) k u w)=[%[|89].u.gv,%[|89].u.lf]++Kw (Dq ts k u w):=rfl;rw[e,ih];by_cases c:p.nm=k
  ·rw[if_pos c];obtain⟨h1,h2⟩:=h p List.mem_cons_self c;show[u.gv,u.lf]++_=[p.u.gv,p.u.lf]++_;rw[h1,h2];rfl
  ·rw[if_neg c];rfl
theorem BW{α:Type}{β:Type}{f:α->β}:∀{l:List α}{p q:α},(l.map f).Nodup->p∈l->q∈l->f p=f q->p=q
 |x::l,p,q,nd,hp,hq,e=>by
  obtain⟨n1,n2⟩:=List.nodup_cons.mp (show (f x::l.map f).Nodup from nd);rcases List.mem_cons.mp hp with h1|h1
  ·rcases List.mem_cons.mp hq with h2|h2
   ·rw[h1,h2]
   ·exact absurd (by rw[<-h1,e];exact zA9 h2) n1
  ·rcases List.mem_cons.mp hq with h2|h2
   ·exact absurd (by rw[<-h2,<-e];exact zA9 h1) n1
   ·exact BW n2 h1 h2 e
theorem Ts(nd:(Kw ts).Nodup)(hp:p∈ts)(hq:q∈ts)(ne:p≠q)(b:Addr)(hb:b=p.u.gv\/b=p.u.lf):b≠q.u.gv/\b≠q.u.lf:=by
 induction ts with
 |nil=>cases hp
 |cons x ts ih=>
  obtain⟨_,n2,n3⟩:=List.nodup_append.mp (show ([x.u.gv,x.u.lf]++Kw ts).Nodup from nd);rcases List.mem_cons.mp hp with rfl|hp
  ·rcases List.mem_cons.mp hq with rfl|hq
   ·exact absurd rfl ne
   ·have fg:b∈[p.u.gv,p.u.lf]:=by simpa using hb
    exact#[n3 b fg _ (CF hq).1,n3 b fg _ (CF hq).2]
  ·have fg:b∈Kw ts:=by
    rcases hb with rfl|rfl
    ·exact (CF hp).1
    ·exact (CF hp).2
   rcases List.mem_cons.mp hq with rfl|hq
   ·exact#[λe=>n3 q.u.gv %[|1] b fg e.symm,λe=>n3 q.u.lf %[|1] b fg e.symm]
   ·exact ih n2 hp hq
theorem Xq{U:Hk}{m:Nat}{u:Tk}{w:Ta}:De U m≠Df u w:=λe=>by
 unfold De Df at e;injection e with e _
 injection e with e _
 revert e
 decide
section
variable {M:%[|3]}{C:Addr}{H H':Hp}{S:HSt}
theorem A0C.alter{p:Tw}{u:Tk}{w:Ta}(h:%[|21])(hp:p∈S.ts)(b:But [p.a,p.u.gv,p.u.lf] H H')(dB:∀c,H c≠none->H' c≠none)(e1:u.gv=p.u.gv)(e2:u.lf=p.u.lf)(ht:A0E M cK H' p.a u w)(hr:w.room=S.room)(hm:w.many=S.m):
  A0C M C cK H' {S with ts:=Dq S.ts p.nm u w}:=by
 have t0:=(h.tt p hp).1
 have k:But M H H':=But.wide (λm hm=>by
  simp only[zAD,zAB,or_false]at hm
  rcases hm with rfl|rfl|rfl
  ·exact t0.ma
  ·exact t0.mg
  ·exact t0.ml) b
 have same:∀{c:Addr}{o:HO},H c=some o->c≠p.a->c≠p.u.gv->c≠p.u.lf->H' c=some o:=λe n1 n2 n3=>b.at e λz=>by
  simp only[zAD,zAB,or_false]at z;rcases z with z|z|z
  ·exact n1 z
  ·exact n2 z
  ·exact n3 z
 have hx:=h.h;obtain⟨n0,nl⟩:=List.nodup_cons.mp h.nl
 have xa:S.x≠p.a:=λe=>by
  have h1:=hx.ob;rw[e,t0.ob]at h1;have h2:=zAH h1;injection h2 with _ _ h3
  exact Xq h3.symm
 have ka:S.U.tk≠p.a:=AV h.tk t0.ob %[|11];refine#[#[same hx.ob xa (AV hx.ob t0.gv %[|11]) (AV hx.ob t0.lf %[|11]),same hx.ln (AV hx.ln t0.ob %[|11]) (λe=>n0 (by rw[e];exact (CF hp).1)) (λe=>n0 (by rw[e];exact (CF hp).2)),hx.mx,hx.ml,k _ _ hx.sp,k _ _ hx.mkm,hx.len,hx.m1,hx.m5,hx.wr,hx.ne,hx.l9],?_,h.mt,λq hq=>?_,?_,?_,?_,λc hc=>dB c (h.fr c hc),by show (Dq _ _ _ _).length<=900;rw[Ub];exact h.tl]
 ·show H' S.U.tk=some (.dK (dS (EJ (Dq S.ts p.nm u w))));rw[Y7];exact same h.tk ka (AV h.tk t0.gv %[|11]) (AV h.tk t0.lf %[|11])
 ·rcases Lc hq with⟨hq,hn⟩|⟨p',eJ,en,rfl⟩
  ·have tq:=(h.tt q hq).1;have npq:q≠p:=λe=>hn (by rw[e])
   have na:q.a≠p.a:=λe=>npq (BW h.aa hq hp e)
   have g1:=Ts nl hq hp npq q.u.gv (.inl rfl);have g2:=Ts nl hq hp npq q.u.lf (.inr rfl);refine#[tq.but k ?_ ?_ ?_,(h.tt q hq).2]
   ·rw[tq.ob];exact same tq.ob na (AV tq.ob t0.gv %[|11]) (AV tq.ob t0.lf %[|11])
   ·rw[tq.gv];exact same tq.gv (AV tq.gv t0.ob %[|11]) g1.1 g1.2
   ·rw[tq.lf];exact same tq.lf (AV tq.lf t0.ob %[|11]) g2.1 g2.2
  ·have e:p'=p:=BW h.na eJ hp en;subst e;exact#[ht,hr,hm]
 ·show (S.U.ln::Kw (Dq S.ts p.nm u w)).Nodup;rw[TV λq hq en=>by rw[BW h.na hq hp en];exact#[e1,e2]];exact h.nl
 ·show (CM (Dq S.ts p.nm u w)).Nodup;rw[Uu];exact h.na
 ·show ((Dq S.ts p.nm u w).map (·.a)).Nodup;rw[Yo];exact h.aa
end
theorem Jh(seen row:List Int):(Bu seen row).length<=20:=by
 unfold Bu;split
 ·decide
 ·split<;>decide
theorem WG(W:Ta)(seen:List Int)(t:Tr):(Cs W seen t).length<=20:=by
 unfold Cs;split
 ·exact Jh _ _
 ·unfold CO;split
  ·decide
  ·split
   ·decide
   ·split
    ·decide
    ·split
     ·decide
     ·exact Jh _ _
def HSt.seen(S:HSt):List Int:=S.room.filter (Dg S.marks)
def NI(S:HSt)(k:Str)(u:Tk)(w:Ta)(l:Str):HSt:={S with ts:=Dq S.ts k u w,ls:=S.ls++[.str l]}
inductive Th(C cK dg cS cO:Addr)(vs:List V)(H:Hp)(Q:VK)(E:XK):Prop|mk(M:%[|3])(S:HSt)(k:Str)(v:V)(t:Tr)(_:vs=[.ref S.x,.str k,v])(_:%[|21])(_:k.length<=100)(_:t.At (A1 M H) v)(_:t.ok 5)(_:t.size<=23)(_:S.ls.length<900)(_:(∀p∈S.ts,p.w.ents.length<900/\p.w.lefts.length<900))(_:%[|66])(_:(∀p∈S.ts,p.nm=k->p.w.ended=true->∀H',A0B H H'->E (.ref cO) none H'))(_:(∀p∈S.ts,p.nm=k->p.w.ended=false->¬t.ok S.m->∀H',A0B H H'->E (.ref cS) none H'))(_:(∀p∈S.ts,p.nm=k->p.w.ended=false->t.ok S.m->∀(u:Tk)(H':Hp),But [p.a,p.u.gv,p.u.lf,S.U.ln] H H'->(∀b,H b≠none->H' b≠none)->u.gv=p.u.gv->u.lf=p.u.lf->A0C M C cK H' (NI S k u (GA p.w v t (%[|64])) (AE ["say",k,Ch t,%[|64]]))->Q (.str (%[|64])) H'))
inductive Um(C cK dg cS:Addr)(vs:List V)(H:Hp)(Q:VK)(E:XK):Prop|mk(M:%[|3])(S:HSt)(k:Str)(v:V)(t:Tr)(_:vs=[.ref S.x,.str k,v])(_:%[|21])(_:t.At H v)(_:t.ok 5)(_:t.size<=60)(_:%[|66])(_:(∀p∈S.ts,p.nm=k->¬t.ok S.m->∀H',A0B H H'->E (.ref cS) none H'))(_:(∀p∈S.ts,p.nm=k->t.ok S.m->∀H',A0B H H'->Q (.str (%[|64])) H'))
inductive Sk(C cK dg cO:Addr)(vs:List V)(H:Hp)(Q:VK)(E:XK):Prop|mk(M:%[|3])(S:HSt)(k:Str)(_:vs=[.ref S.x,.str k])(_:%[|21])(_:k.length<=100)(_:S.ls.length<900)(_:%[|66])(_:(∀p∈S.ts,p.nm=k->p.w.ended=true->E (.ref cO) none H))(_:(∀p∈S.ts,p.nm=k->p.w.ended=false->∀(H':Hp),But [p.a,p.u.gv,p.u.lf,S.U.ln] H H'->(∀b,H b≠none->H' b≠none)->A0C M C cK H' (NI S k p.u (GY p.w) (AE ["end",k]))->Q .non H'))
inductive OO(C cK dg cO cG:Addr)(vs:List V)(H:Hp)(Q:VK)(E:XK):Prop|mk(M:%[|3])(S:HSt)(k:Str)(_:vs=[.ref S.x,.str k])(_:%[|21])(_:k.length<=100)(_:S.ls.length<900)(_:(∀p∈S.ts,p.w.lefts.length=p.w.ents.length+1))(_:%[|66])(_:(∀p∈S.ts,p.nm=k->p.w.ended=true->E (.ref cO) none H))(_:(∀p∈S.ts,p.nm=k->p.w.ended=false->p.w.ents=[]->E (.ref cG) none H))(_:(∀p∈S.ts,p.nm=k->p.w.ended=false->p.w.ents≠[]->∀(c:Addr)(e:V×Tr×Str)(u:Tk)(H':Hp),But [p.a,p.u.gv,p.u.lf,S.U.ln] H H'->(∀b,H b≠none->H' b≠none)->u.gv=p.u.gv->u.lf=p.u.lf->p.w.ents.getLast? = some e->A1 M H c=some (.tup [e.1,.str e.2.2])->e.2.1.At (A1 M H) e.1->A0C M C cK H' (NI S k u (DB p.w) (AE ["back",k]))->Q (.ref c) H'))
inductive HF(C cK dg:Addr)(vs:List V)(H:Hp)(Q:VK)(E:XK):Prop|mk(M:%[|3])(S:HSt)(k:Str)(_:vs=[.ref S.x,.str k])(_:%[|21])(_:%[|66])(_:(∀p∈S.ts,p.nm=k->∀(l:Addr)(H':Hp),A0B H H'->H l=none->H' l=some (.lst p.u.ges)->Q (.ref l) H'))
inductive Pf(C cK dg:Addr)(vs:List V)(H:Hp)(Q:VK)(E:XK):Prop|mk(M:%[|3])(S:HSt)(k:Str)(_:vs=[.ref S.x,.str k])(_:%[|21])(_:%[|66])(_:(∀p∈S.ts,p.nm=k->∀(l:Addr)(H':Hp),A0B H H'->H l=none->AK H' l p.w.held->Q (.ref l) H'))
inductive Jy(C cK dg:Addr)(vs:List V)(H:Hp)(Q:VK)(E:XK):Prop|mk(M:%[|3])(S:HSt)(k:Str)(_:vs=[.ref S.x,.str k])(_:%[|21])(_:%[|66])(_:(∀p∈S.ts,p.nm=k->∀(H':Hp),A0B H H'->Q (.bl (!AO p.w.sides p.w.held)) H'))
inductive Od(C cK dg:Addr)(vs:List V)(H:Hp)(Q:VK)(E:XK):Prop|mk(M:%[|3])(S:HSt)(k:Str)(_:vs=[.ref S.x,.str k])(_:%[|21])(_:%[|66])(_:(∀p∈S.ts,p.nm=k->Q (.bl p.w.ended) H))
section
def scHSay:=Au Xc ["self","name","sentence","word"] 3
def Zq:=Au W5 ["self","name","sentence"] 3
def scHBack:=Au Sl ["self","name","pair"] 2
def Y8:=Au XG ["self","name"] 2
def Nd:=Au IL ["self","name"] 2
def VN:=Au SD ["self","name"] 2
def QS:=Au LG ["self","name"] 2
def VR:=Au SW ["self","name"] 2
theorem Go(de:%[|5]):%[|39] "entries" (EI P w) 4 (HF cH cK dg):=by
 refine de.h84.okX Nd ?_;rintro bz f dm A outer s H _ Q E hr ⟨M,S,k,rfl,hT,qN,q⟩;refine#[_,AX (B0 %[(BG de)|118] de.TX.cl (Lk de) hr Al),?_];exists 14;have tp:=(hT.tt p hp).1;exact#[tp.ob,NL,p.a,M,p.u,p.w,rfl,tp,λl H' s' l0 hl=>q p hp ep l H' s' l0 hl]
theorem KA(de:%[|5]):%[|39] "held" (EI P w) 4 (Pf cH cK dg):=by
 refine de.h85.okX VN ?_;rintro bz f dm A outer s H _ Q E hr ⟨M,S,k,rfl,hT,qN,q⟩;refine#[_,AX (B0 %[(BG de)|118] de.TX.cl (Ms de) hr Al),?_];exists 14;have tp:=(hT.tt p hp).1;exact#[tp.ob,Ox,p.a,M,p.u,p.w,rfl,tp,λl H' s' l0 hl=>q p hp ep l H' s' l0 hl]
theorem NK(de:%[|5]):%[|39] "caught" (EI P w) 6 (Jy cH cK dg):=by
 refine de.h88.okX QS ?_;rintro bz f dm A outer s H _ Q E hr ⟨M,S,k,rfl,hT,qN,q⟩;refine#[_,AX (B0 %[(BG de)|118] de.TX.cl (MX de) hr Al),?_];exists 14;have tp:=(hT.tt p hp).1;exact#[tp.ob,Q6,p.a,M,p.u,p.w,rfl,tp,λH' s'=>q p hp ep H' s']
theorem UE(de:%[|5]):%[|39] "over" (EI P w) 4 (Od cH cK dg):=by
 refine de.h89.okX VR ?_;rintro bz f dm A outer s H _ Q E hr ⟨M,S,k,rfl,hT,qN,q⟩;refine#[_,AX (B0 %[(BG de)|118] de.TX.cl (Li de) hr Al),?_];exists 14;have tp:=(hT.tt p hp).1;exact#[tp.ob,N6,p.a,M,p.u,p.w,rfl,tp,q p hp ep]
theorem Vp(de:%[|5]):%[|39] "ask" (EI P w) 7 (Um cH cK dg cS):=by
 refine de.h90.okX Zq ?_;rintro bz f dm A outer s H _ Q E hr ⟨M,S,k,v,t,rfl,hT,ha,eW,hsz,qN,qS,q⟩;refine#[_,AX (By %[(BG de)|118] de.TX.cl (OJ de) hr %[|24] (AN (pv 2) (B0 (pv 0) de.HX.cl (DZ de) hr Al))),?_];exists 14;have em:=(hT.tt p hp).2.2;refine#[(hT.tt p hp).1.ob,SV,hT.h.ob,Fg,S.x,M,S.U,S.m,S.room,S.marks,S.ls,rfl,hT.h,λsn H1 s1 sn0 g9=>?_];have wsn:=hT.h.wr.sub (zAM (p:=Dg S.marks) (l:=S.room));refine#[p.a,sn,v,M,p.u,p.w,t,S.seen,rfl,((hT.keep s1).tt p hp).1,ha.keep (TS.same s1),eW,hsz,SqL.of g9,wsn,hT.h.ne,λc H' s'=>qS p hp ep (by rw[<-em];exact c) H' (s1.trans s'),λc H' s'=>q p hp ep (by rw[<-em];exact c) H' (s1.trans s')]
theorem WW(de:%[|5]):%[|39] "say" (EI P w) 8 (Th cH cK dg cS cO):=by
 refine de.h70.okX scHSay ?_;rintro bz f dm A outer s H _ Q E hr ⟨M,S,k,v,t,rfl,hT,io,ha,eW,hsz,fW,he9,qN,qO,qS,q⟩
 refine#[_,Aa (AC 3 scHSay.nd (By %[(BG de)|118] de.TX.cl (WO de) hr %[|24] (AN (pv 2) (B0 (pv 0) de.HX.cl (DZ de) hr Al))))
  (Aa (As (By (pv 0) de.HX.cl (Cg de) hr Al (AI (Av (Ag Ae (Ag (pv 1) (AN (Ax (G3 de) hr Al (AI (pv 2))) (pv 3))))))))
  (AX (pv 3))),?_]
 exists 14;subst ep;obtain⟨tp0,er,em⟩:=hT.tt p hp;refine#[tp0.ob,YS,hT.h.ob,Fg,S.x,M,S.U,S.m,S.room,S.marks,S.ls,rfl,hT.h,λsn H1 s1 sn0 g9=>?_];have wsn:=hT.h.wr.sub (zAM (p:=Dg S.marks) (l:=S.room));have eA:=hT.keep s1;have tp1:=(eA.tt p hp).1;refine#[p.a,sn,v,M,p.u,p.w,t,S.seen,rfl,tp1,eA.fr,ha.keep (TS.same (Aj s1)),eW,by omega,SqL.of g9,wsn,hT.h.ne,(he9 p hp).1,(he9 p hp).2,λc H' s'=>qO p hp rfl c H' (s1.trans s'),λc c2 H' s'=>qS p hp rfl c (by rw[<-em];exact c2) H' (s1.trans s'),λc c2 u H2 b2 eg el dB ht=>?_];have b2':But [p.a,p.u.gv,p.u.lf] H1 H2:=But.wide (λm hm=>List.mem_cons_of_mem _ hm) b2;have eB:=eA.alter hp b2' dB eg el ht er em
 have kM:But M H1 H2:=But.wide (λm hm=>by
  simp only[zAD,zAB,or_false]at hm
  rcases hm with rfl|rfl
  ·exact tp1.mg
  ·exact tp1.ml) b2
 have dL:t.At H2 v:=ha.keep (TS.same (((Aj s1).trans kM).trans A0D));refine#[eB.h.ob,CK,v,t,rfl,dL,eW,hsz,λz H3 hz s3=>?_];have ez:=FP hz;subst ez;refine#[Z3,λl hl=>?_];have s4:=Ab hl (.lst [.str "say",.str p.nm,.str (Ch t),.str (%[|64])]);have l4:upd H3 l (.lst [.str "say",.str p.nm,.str (Ch t),.str (%[|64])]) l=some (.lst ([("say":Str),p.nm,Ch t,%[|64]].map V.str)):=A0A;generalize upd H3 l _=H4 at*;have g8:=eB.keep (s3.trans s4);refine#[S.x,l,S.U,S.m,[("say":Str),p.nm,Ch t,%[|64]],S.ls,rfl,g8.h.ob,g8.h.ln,by omega,l4,?_,?_]
 ·show ("say":Str).length+(p.nm.length+((Ch t).length+((%[|64]).length+0)))+4<=100000;have:("say":Str).length=3:=rfl;have:=Fk t;have:=WG p.w S.seen t;omega
 have jX:=g8.wrote (.str (AE ["say",p.nm,Ch t,%[|64]])) fW;refine q p hp rfl c (by rw[<-em];exact c2) u _ ?_ ?_ eg el jX
 ·refine (Aj s1).trans (But.wide (M:=[p.a,p.u.gv,p.u.lf]) (λm hm=>?_) b2' |>.trans ((Aj (s3.trans s4)).trans (But.upd %[|1])));simp only[zAD,zAB,or_false]at hm ⊢;rcases hm with h|h|h<;>simp[h]
 ·intro b hb z;have h1:H1 b≠none:=λz1=>hb (s1.free z1)
  have h2:=dB b h1;have h4:H4 b≠none:=λz4=>h2 ((s3.trans s4).free z4)
  by_cases e:b=S.U.ln
  ·rw[e,A0A]at z;cases z
  ·rw[Af e]at z;exact h4 z
theorem IT(s1:A0B H H1)(b:But M H1 H2)(hl:l∈M):But M H (upd H2 l o):=((Aj s1).trans b).trans (But.upd hl)
theorem SF(h:H b≠none):upd H l o b≠none:=λz=>by
 by_cases e:b=l
 ·rw[e,A0A]at z;cases z
 ·rw[Af e]at z;exact h z
theorem Wa(de:%[|5]):%[|39] "end" (EI P w) 4 (Sk cH cK dg cO):=by
 refine de.h74.okX Y8 ?_;rintro bz f dm A outer s H _ Q E hr ⟨M,S,k,rfl,hT,io,fW,qN,qO,q⟩
 refine#[_,Aa (As (B0 %[(BG de)|118] de.TX.cl (Vg de) hr %[|24]))
  (Ak (As (By (pv 0) de.HX.cl (Cg de) hr Al (AI (Av (AN Ae (pv 1))))))),?_]
 exists 14;subst ep;obtain⟨tp0,er,em⟩:=hT.tt p hp;refine#[tp0.ob,YJ,p.a,M,p.u,p.w,rfl,tp0,λc=>qO p hp rfl c,λc H1 b1 ht=>?_];have b1':But [p.a,p.u.gv,p.u.lf] H H1:=But.wide (λm hm=>by rw[List.mem_singleton.mp hm];exact List.mem_cons_self) b1
 have dB:∀b,H b≠none->H1 b≠none:=λb hb z=>by
  by_cases e:b=p.a
  ·rw[e,ht.ob]at z;cases z
  ·cases h0:H b with
   |none=>exact hb h0
   |some o=>rw[b1.at h0 (λz=>e (List.mem_singleton.mp z))]at z;cases z
 have eA:=hT.alter hp b1' dB rfl rfl ht er em;refine#[eA.h.ob,CK,C4,λl hl=>?_];have s2:=Ab hl (.lst [.str "end",.str p.nm]);have l2:upd H1 l (.lst [.str "end",.str p.nm]) l=some (.lst ([("end":Str),p.nm].map V.str)):=A0A;generalize upd H1 l _=H2 at*;have eB:=eA.keep s2;refine#[S.x,l,S.U,S.m,[("end":Str),p.nm],S.ls,rfl,eB.h.ob,eB.h.ln,by omega,l2,?_,?_]
 ·show ("end":Str).length+(p.nm.length+0)+2<=100000;have:("end":Str).length=3:=rfl;omega
 have iq:=eB.wrote (.str (AE ["end",p.nm])) fW;refine q p hp rfl c _ ?_ ?_ iq
 ·refine IT (A0B.refl _) ((But.wide (M:=[p.a]) (λm hm=>?_) b1).trans (Aj s2)) %[|1];rw[List.mem_singleton.mp hm];exact List.mem_cons_self
 ·exactλb hb=>SF λz=>dB b hb (s2.free z)
theorem RN(de:%[|5]):%[|39] "back" (EI P w) 4 (OO cH cK dg cO cG):=by
 refine de.h72.okX scHBack ?_;rintro bz f dm A outer s H _ Q E hr ⟨M,S,k,rfl,hT,io,fW,gk,qN,qO,qG,q⟩
 refine#[_,Aa (AC 2 scHBack.nd (B0 %[(BG de)|118] de.TX.cl (UQ de) hr %[|24]))
  (Aa (As (By (pv 0) de.HX.cl (Cg de) hr Al (AI (Av (AN Ae (pv 1))))))
  (AX (pv 2))),?_]
 exists 14;subst ep;obtain⟨tp0,er,em⟩:=hT.tt p hp;refine#[tp0.ob,Vu,p.a,M,p.u,p.w,rfl,tp0,gk p hp,λc=>qO p hp rfl c,λc c2=>qG p hp rfl c c2,λc c2 pc e u H1 b1 eg el dB he hpc dN ht=>?_];have b1':But [p.a,p.u.gv,p.u.lf] H H1:=But.wide (λm hm=>List.mem_cons_of_mem _ hm) b1;have eA:=hT.alter hp b1' dB eg el ht er em;refine#[eA.h.ob,CK,C4,λl hl=>?_];have s2:=Ab hl (.lst [.str "back",.str p.nm]);have l2:upd H1 l (.lst [.str "back",.str p.nm]) l=some (.lst ([("back":Str),p.nm].map V.str)):=A0A;generalize upd H1 l _=H2 at*;have eB:=eA.keep s2;refine#[S.x,l,S.U,S.m,[("back":Str),p.nm],S.ls,rfl,eB.h.ob,eB.h.ln,by omega,l2,?_,?_]
 ·show ("back":Str).length+(p.nm.length+0)+2<=100000;have:("back":Str).length=4:=rfl;omega
 have iq:=eB.wrote (.str (AE ["back",p.nm])) fW;refine q p hp rfl c c2 pc e u _ ?_ ?_ eg el he hpc dN iq
 ·refine IT (A0B.refl _) ((But.wide (λm hm=>?_) b1').trans (Aj s2)) %[|1];simp only[zAD,zAB,or_false]at hm ⊢;rcases hm with h|h|h<;>simp[h]
 ·exactλb hb=>SF λz=>dB b hb (s2.free z)
end
structure Mt where
 nm:Str
 d:Addr
 sd:Addr
 sa:Addr
 hl:Addr
 sds:List V
 sas:List V
 hls:List V
 v:V
 w:Ta
structure Mz where
 st:Addr
 r:Addr
 mka:Addr
 tl:Addr
 ln:Addr
 m:Nat
 room:List Int
 marks:List (%[|17])
 ls:List V
 ts:List Mt
def DL(p:Mt):List (Str×V):=[("name",.str p.nm),("sides",.ref p.sd),("rule",.str p.w.rule),("kind",.str p.w.kind),("sentence",p.v),("over",.bl p.w.ended),("said",.ref p.sa),("helds",.ref p.hl)]
def Ip(Z:Mz):List (Str×V):=[("many",.int Z.m),("room",.ref Z.r),("marks",.ref Z.mka),("talks",.ref Z.tl),("lines",.ref Z.ln)]
theorem GS:BH (DL p) "name"=some (.str p.nm):=by with_unfolding_all rfl
theorem HC:BH (DL p) "sides"=some (.ref p.sd):=by with_unfolding_all rfl
theorem VG:BH (DL p) "rule"=some (.str p.w.rule):=by with_unfolding_all rfl
theorem Ew:BH (DL p) "over"=some (.bl p.w.ended):=by with_unfolding_all rfl
theorem FB:BH (DL p) "said"=some (.ref p.sa):=by with_unfolding_all rfl
theorem Dr:BH (DL p) "helds"=some (.ref p.hl):=by with_unfolding_all rfl
theorem O3:BH (Ip Z) "many"=some (.int Z.m):=by with_unfolding_all rfl
theorem EG:BH (Ip Z) "room"=some (.ref Z.r):=by with_unfolding_all rfl
theorem Ft:BH (Ip Z) "marks"=some (.ref Z.mka):=by with_unfolding_all rfl
theorem Dn:BH (Ip Z) "talks"=some (.ref Z.tl):=by with_unfolding_all rfl
theorem CH:BH (Ip Z) "lines"=some (.ref Z.ln):=by with_unfolding_all rfl
structure A0T(M:%[|3])(H:Hp)(p:Mt):Prop where
 ob:H p.d=some (.dK (dS (DL p)))
 sa:H p.sa=some (.lst p.sas)
 hl:H p.hl=some (.lst p.hls)
 md:p.d∈M
 ms:p.sa∈M
 mh:p.hl∈M
 sd:A1 M H p.sd=some (.lst p.sds)
 sr:A0F (A1 M H) p.sds p.w.sides
 tr:p.w.t.At (A1 M H) p.v
 en:A0K (A1 M H) p.sas p.w.ents
 lr:A0F (A1 M H) p.hls p.w.lefts
def Gc(ts:List Mt):List Addr:=ts.flatMap λp=>[p.d,p.sa,p.hl]
def Bx(Z:Mz):List Addr:=Z.st::Z.tl::Z.ln::Gc Z.ts
def Kx(ts:List Mt):List Str:=ts.map (·.nm)
structure ModT(M:%[|3])(H:Hp)(Z:Mz):Prop where
 ob:H Z.st=some (.dK (dS (Ip Z)))
 tl:H Z.tl=some (.lst (Z.ts.map λp=>.ref p.d))
 ln:H Z.ln=some (.lst Z.ls)
 ms:Z.st∈M
 mt:Z.tl∈M
 ml:Z.ln∈M
 r:AK (A1 M H) Z.r Z.room
 mkm:A1 M H Z.mka=some (.lst (Z.marks.map CA))
 tt:∀p∈Z.ts,A0T M H p
 nd:(Bx Z).Nodup
 na:(Kx Z.ts).Nodup
section
variable {M N:%[|3]}{H H':Hp}{p:Mt}{Z:Mz}
theorem A0T.keep(s:A0B H H')(h:A0T M H p):A0T M H' p:=
 #[s _ _ h.ob,s _ _ h.sa,s _ _ h.hl,h.md,h.ms,h.mh,Aj s _ _ h.sd,h.sr.keep (Aj s),h.tr.keep (TS.same (Aj s)),h.en.keep (Aj s),h.lr.keep (Aj s)]
theorem ModT.keep(s:A0B H H')(h:ModT M H Z):ModT M H' Z:=
 #[s _ _ h.ob,s _ _ h.tl,s _ _ h.ln,h.ms,h.mt,h.ml,Aj s _ _ h.r,Aj s _ _ h.mkm,λp hp=>(h.tt p hp).keep s,h.nd,h.na]
theorem A0T.but(b:But M H H')(h1:H' p.d=H p.d)(h2:H' p.sa=H p.sa)(h3:H' p.hl=H p.hl)(h:A0T M H p):A0T M H' p:=
 #[h1.trans h.ob,h2.trans h.sa,h3.trans h.hl,h.md,h.ms,h.mh,b _ _ h.sd,h.sr.keep b,h.tr.keep (TS.same b),h.en.keep b,h.lr.keep b]
theorem B7(h:p∈ts):p.d∈Gc ts/\p.sa∈Gc ts/\p.hl∈Gc ts:=
 #[List.mem_flatMap.mpr #[p,h,by simp],List.mem_flatMap.mpr #[p,h,by simp],List.mem_flatMap.mpr #[p,h,by simp]]
theorem ModT.aside(b:But M H H')(e:∀c∈Bx Z,H' c=H c)(h:ModT M H Z):ModT M H' Z:=by
 have m0:∀{c},c∈Gc Z.ts->c∈Bx Z:=λhc=>List.mem_cons_of_mem _ %[(List.mem_cons_of_mem _ hc)|116]
 refine#[(e _ (by simp[Bx])).trans h.ob,(e _ (by simp[Bx])).trans h.tl,(e _ (by simp[Bx])).trans h.ln,h.ms,h.mt,h.ml,b _ _ h.r,b _ _ h.mkm,λp hp=>?_,h.nd,h.na];obtain⟨a1,a2,a3⟩:=B7 hp;exact (h.tt p hp).but b (e _ (m0 a1)) (e _ (m0 a2)) (e _ (m0 a3))
theorem A0T.more(s:A0B H H')(hn:∀n∈N,H n=none)(h:A0T M H p):A0T (N++M) H' p:=by
 have k:=C0 (M:=M) s hn;exact#[s _ _ h.ob,s _ _ h.sa,s _ _ h.hl,zAE _ h.md,zAE _ h.ms,zAE _ h.mh,k _ _ h.sd,h.sr.keep k,h.tr.keep (TS.same k),h.en.keep k,h.lr.keep k]
theorem ModT.more(s:A0B H H')(hn:∀n∈N,H n=none)(h:ModT M H Z):ModT (N++M) H' Z:=by
 have k:=C0 (M:=M) s hn;exact#[s _ _ h.ob,s _ _ h.tl,s _ _ h.ln,zAE _ h.ms,zAE _ h.mt,zAE _ h.ml,k _ _ h.r,k _ _ h.mkm,λp hp=>(h.tt p hp).more s hn,h.nd,h.na]
theorem ModT.wrote(l:V)(h:ModT M H Z):ModT M (upd H Z.ln (.lst (Z.ls++[l]))) {Z with ls:=Z.ls++[l]}:=by
 have eu:A1 M (upd H Z.ln (.lst (Z.ls++[l])))=A1 M H:=BA h.ml;have nd:=h.nd;unfold Bx at nd;obtain⟨n1,n2⟩:=List.nodup_cons.mp nd;obtain⟨n3,n4⟩:=List.nodup_cons.mp n2;obtain⟨n5,n6⟩:=List.nodup_cons.mp n4;have ne1:Z.st≠Z.ln:=λz=>n1 (by rw[z];simp)
 have ne2:Z.tl≠Z.ln:=λz=>n3 (by rw[z];simp)
 refine#[(Af ne1).trans h.ob,(Af ne2).trans h.tl,A0A,h.ms,h.mt,h.ml,by rw[eu];exact h.r,by rw[eu];exact h.mkm,λp hp=>?_,h.nd,h.na];obtain⟨a1,a2,a3⟩:=B7 hp;exact (h.tt p hp).but (But.upd h.ml) (Af λz=>n5 (by rw[<-z];exact a1)) (Af λz=>n5 (by rw[<-z];exact a2)) (Af λz=>n5 (by rw[<-z];exact a3))
end
inductive Pi(vs:List V)(H:Hp)(Q:VK)(E:XK):Prop|mk(M:%[|3])(Z:Mz)(k:Str)(_:vs=[.ref Z.st,.str k])(_:ModT M H Z)(_:Z.ts.length<=900)(_:(k∉Kx Z.ts->Q .non H))(_:(∀p∈Z.ts,p.nm=k->Q (.ref p.d) H))
section
def scLfind:=Au RJ ["_law_state_here","_law_name_here","_law_talk"] 2
theorem Fy(de:%[|5]):%[|8] "_law_find" BC 1 Pi:=by
 refine de.h19.ok scLfind ?_;rintro bz f dm A outer s H _ Q E hr ⟨M,Z,k,rfl,hZ,fW,qN,q⟩
 refine#[_,Aa (BB zAR rfl (AT %[|54]) (Bo 2 scLfind.nd)
   (Ak (Aq (AM AH %[|56] (pv 1))
    (AX (pv 2))
    Ah)))
  (AX Cm),?_]
 refine#[hZ.ob,Dn,#[_,SqL.of hZ.tl],A0 (K:=K) (a:=Z.tl) (xs:=Z.ts.map λp=>V.ref p.d) (λi σ Hi=>∃(v2:Option V),BV (σ=[some (.ref Z.st),some (.str k),v2]) (Hi=H) (∀p∈Z.ts.take i,p.nm≠k)) #[_,rfl,rfl,λp hp=>nomatch hp] ?_ ?_ ?_]
 ·rintro i σ Hi _ ⟨v2,rfl,rfl,_⟩;exact SqL.of hZ.tl
 ·rintro i x σ Hi hx ⟨v2,rfl,rfl,kh⟩;rw[List.getElem?_map]at hx;obtain⟨p,hp,rfl⟩:=Option.map_eq_some_iff.mp hx;have hpm:=zAJ hp;refine#[(hZ.tt p hpm).ob,GS,rfl,?_];by_cases c:p.nm=k
  ·exact BL (by rw[c]) (q p hpm c)
  ·refine Bz (λz=>c (by injection z)) #[_,rfl,rfl,λp' eJ=>?_];rw[zAQ,hp]at eJ;rcases List.mem_append.mp eJ with h|h
   ·exact kh p' h
   ·have:p'=p:=by simpa using h
    rw[this];exact c
 ·rintro σ Hi ⟨v2,rfl,rfl,kh⟩;rw[List.length_map,zAP]at kh
  exact qN λz=>by
   obtain⟨p,hp,e⟩:=List.mem_map.mp z;exact kh p hp e
end
inductive KH(K:PySem.W.Frag)(vs:List V)(H:Hp)(Q:VK)(E:XK):Prop|mk(s:Addr)(v:V)(t:Tr)(seen:List Int)(_:vs=[.ref s,v])(_:t.At H v)(_:t.ok 5)(_:t.size<=23)(_:SqL K H s (seen.map V.int))(_:seen.length<=900)(_:∀(H':Hp),A0B H H'->Q (.str (Ba seen t)) H')
section
variable {f:Addr}
def UO:=Au O5 ["_law_seen","_law_sentence_here"] 2
theorem FQ(de:%[|5]):%[|8] "_law_plain" BC 24 (KH K):=by
 refine de.h22.ok UO ?_;rintro bz f dm A outer s H _ Q E hr ⟨sn,v,t,seen,rfl,ha,hok,hs,hN,hl,q⟩
 refine#[_,Aa (Aq (Bv (AQ (Dp rfl) %[|10] de.T.all boot_all (AI (A8 (N:=["_law_world","_law_sentence_here"]) (js:=[none,some 1]) (cl:=[("_law_sentence_here",s.heap.objs.size+1)]) #[rfl,rfl,rfl,(by intro p hp;simp at hp;rcases hp with rfl<;>rfl),rfl,rfl,rfl] (AT (pv 0)) %[|94] (λc1=>Bk) (λc1=>%[|92])))))
   (AX Ae)
   Ah)
  (Aa (Aq (Bv (AQ (JD rfl) %[|10] de.T.any boot_any (AI (A8 (N:=["_law_world","_law_sentence_here"]) (js:=[none,some 1]) (cl:=[("_law_sentence_here",s.heap.objs.size+1)]) #[rfl,rfl,rfl,(by intro p hp;simp at hp;rcases hp with rfl<;>rfl),rfl,rfl,rfl] (AT (pv 0)) %[|94] (λc1=>Bk) (λc1=>%[|92])))))
   (AX Ae)
   Ah)
  (AX Ae)),?_]
 refine#[#[_,hN],λc1 acc dq=>E9 (f:=λk=>tv t k) (rest:=[some v]) hN dq hl (λk hk H3 s3 R3 hR3=>?_) (λv0 H3 s3 h3=>?_) none]
 ·exact#[v,t,k,rfl,ha.keep (TS.same s3),hok,hs,λH4 s4=>hR3 H4 s4]
 refine#[acc,_,rfl,SqL.of h3,?_];have e1:(seen.map λk=>tv t k).all id=seen.all λk=>tv t k:=by rw[zDD];rfl
 have e2:(seen.map λk=>tv t k).any id=seen.any λk=>tv t k:=by rw[zDQ];rfl
 rw[e1];unfold Ba at q
 cases h0:seen.all λk=>tv t k with
 |true=>
  refine AD ?_;rw[h0,if_pos rfl]at q;exact q _ s3
 |false=>
  refine Aw ?_;rw[h0,if_neg zAG]at q;refine#[#[_,s3.seq hN],λc1 ac2 hac2=>E9 (f:=λk=>tv t k) (rest:=[some v]) (s3.seq hN) hac2 hl (λk hk H4 s4 R3 hR3=>?_) (λv0 H4 s4 h4=>?_) none]
  ·exact#[v,t,k,rfl,(ha.keep (TS.same s3)).keep (TS.same s4),hok,hs,λH5 s5=>hR3 H5 s5]
  refine#[ac2,_,rfl,SqL.of h4,?_];rw[e2]
  cases h1:seen.any λk=>tv t k with
  |true=>
   refine AD ?_;rw[h1,if_pos rfl]at q;exact q _ (s3.trans s4)
  |false=>
   refine Aw ?_;rw[h1,if_neg zAG]at q;exact q _ (s3.trans s4)
end
inductive UM(K:PySem.W.Frag)(vs:List V)(H:Hp)(Q:VK)(E:XK):Prop|mk(sd g s:Addr)(v:V)(t:Tr)(xs:List V)(sides:%[|25])(going seen:List Int)(_:vs=[.ref sd,.ref g,.ref s,v])(_:t.At H v)(_:t.ok 5)(_:t.size<=23)(_:SqL K H sd xs)(_:A0F H xs sides)(_:(∀s∈sides,s.length<=900))(_:SqL K H g (going.map V.int))(_:going.length<=900)(_:SqL K H s (seen.map V.int))(_:seen.length<=900)(_:∀(H':Hp),A0B H H'->Q (.str (Gb sides going seen t)) H')
theorem VA(sides:%[|25])(going seen:List Int)(t:Tr)(h0:%[|29] going≠[])(h1:%[|15] going≠[]):Gb sides going seen t=if Ba seen t="grant"/\AO sides (%[|15] going)=false then ("doubt":Str)else if Ba seen t="deny"/\AO sides (%[|29] going)=false then ("doubt":Str)else Ba seen t:=by
 have n1:¬("grant":Str)="deny":=by decide
 have n2:¬("doubt":Str)="grant":=by decide
 have n3:¬("doubt":Str)="deny":=by decide
 have n4:¬("deny":Str)="grant":=by decide
 have hp:Ba seen t="grant"\/Ba seen t="doubt"\/Ba seen t="deny":=by
  unfold Ba;split
  ·exact .inl rfl
  ·split
   ·exact .inr (.inl rfl)
   ·exact .inr (.inr rfl)
 unfold Gb;rw[if_neg h0,if_neg h1];rcases hp with e|e|e<;>rw[e]
 ·cases h:AO sides (%[|15] going)<;>simp[n1]
 ·simp[n2,n3]
 ·cases h:AO sides (%[|29] going)<;>simp[n4]
section
def A2L:=Au XO ["_law_sides","_law_going","_law_seen","_law_sentence_here","_law_ins_here","_law_outs","_law_wish"] 4
def A2G:=Au P3 ["_law_state_here","_law_talk","_law_sentence_here","_law_seen","_law_going"] 3
theorem WZ(de:%[|5]):%[|8] "_law_due" BC 25 (UM K):=by
 refine de.h24.ok A2L ?_;rintro bz f dm A outer s H _ Q E hr ⟨sd,gg,sn,v,t,xs,sides,going,seen,rfl,ha,hok,hs,hX,hR,d3,hG,jV,hN,fq,q⟩
 refine#[_,Aa (D6 (i:=4) A2L.nd rfl (Or.inl rfl) (N:=["_law_world","_law_sentence_here"]) (js:=[none,some 3]) (cl:=[("_law_sentence_here",s.heap.objs.size+1)]) #[rfl,rfl,rfl,(by intro p hp;simp at hp;rcases hp with rfl<;>rfl),rfl,rfl,rfl] (AT (pv 1)) %[|94] (λc1=>(CS (Bv %[|92]))) (λc1=>(pv 0)))
  (Aa (D6 (i:=5) A2L.nd rfl (Or.inl rfl) (N:=["_law_world","_law_sentence_here"]) (js:=[none,some 3]) (cl:=[("_law_sentence_here",s.heap.objs.size+1)]) #[rfl,rfl,rfl,(by intro p hp;simp at hp;rcases hp with rfl<;>rfl),rfl,rfl,rfl] (AT (pv 1)) %[|94] (λc1=>(CS (Ct (Bv %[|92])))) (λc1=>(pv 0)))
  (Aa (Aq (HB (AM (HN hr.units0) (pv 5) (Av Bi)) (E5 (AM (HN hr.units0) (pv 4) (Av Bi)))).pt
   (AX (D8 (AM (HN hr.units0) (pv 5) (Av Bi)) Ae Ae))
   Ah)
  (Aa (AC 6 A2L.nd (Ax (FQ de) hr Al (AN (pv 2) (pv 3))))
  (Aa (Aq (EW (AM AH (pv 6) Ae) (DC (Ct (Bv (Ax (ES de) hr Al (AN (pv 0) (pv 4))))))).pt
   (AX Ae)
   Ah)
  (Aa (Aq (EW (AM AH (pv 6) Ae) (DC (Ct (Bv (Ax (ES de) hr Al (AN (pv 0) (pv 5))))))).pt
   (AX Ae)
   Ah)
  (AX (pv 6))))))),?_]
 refine#[#[_,hG],λcc il iG=>BO (p:=λk=>tv t k == true) (rest:=[some v]) hG iG jV (λk hk H2 s2 R hR=>?_) (λv0 H2 s2 gX=>?_) none]
 ·refine#[v,t,k,rfl,ha.keep (TS.same s2),hok,hs,λH3 s3=>?_];have:=hR H3 s3;rw[show (tv t k == true)=tv t k by cases tv t k<;>rfl]at this;exact this
 refine Dz rfl ?_;refine#[#[_,s2.seq hG],λcc ol hV=>BO (p:=λk=>tv t k == false) (rest:=[some v]) (s2.seq hG) hV jV (λk hk H3 s3 R hR=>?_) (λv0 H3 s3 g5=>?_) none]
 ·refine#[v,t,k,rfl,ha.keep (TS.same (s2.trans s3)),hok,hs,λH4 s4=>?_];have:=hR H4 s4;rw[show (tv t k == false) = !tv t k by cases tv t k<;>rfl]at this;exact this
 refine Dz rfl ?_;change AK H2 il (%[|15] going)at gX;change AK H3 ol (%[|29] going)at g5;have fj:=s2.trans s3;have ili:(%[|15] going).length<=900:=zAC (zAV _ _) jV;have oli:(%[|29] going).length<=900:=zAC (zAV _ _) jV;refine#[GD,λe1 he1=>?_];have s4:=Ab he1 %[|9];refine#[ol,e1,_,rfl,rfl,SqL.of (s4 _ _ g5),SqL.of A0A,?_];rw[Ej];generalize upd H3 e1 _=H4 at*;by_cases h0:%[|29] going=[]
 ·refine BL h0 (AD ?_);refine#[GD,λe2 he2=>?_];have s5:=Ab he2 %[|9];refine#[ol,e2,_,rfl,rfl,SqL.of (s5 _ _ (s4 _ _ g5)),SqL.of A0A,?_];rw[Ej];refine BL h0 ?_;have:=q _ (fj.trans (s4.trans s5));unfold Gb at this;rw[if_pos h0]at this;exact this
 refine Bz h0 ?_;refine#[GD,λe2 he2=>?_];have s5:=Ab he2 %[|9];have hi5:=s5 _ _ (s4 _ _ (s3 _ _ gX));have ho5:=s5 _ _ (s4 _ _ g5);refine#[il,e2,_,rfl,rfl,SqL.of hi5,SqL.of A0A,?_];rw[Ej];generalize upd H4 e2 _=H5 at*;have s15:=fj.trans (s4.trans s5);by_cases h1:%[|15] going=[]
 ·refine BL h1 ?_;refine#[GD,λe3 he3=>?_];have s6:=Ab he3 %[|9];refine#[ol,e3,_,rfl,rfl,SqL.of (s6 _ _ ho5),SqL.of A0A,?_];rw[Ej];refine Bz h0 ?_;have:=q _ (s15.trans s6);unfold Gb at this;rw[if_neg h0,if_pos h1]at this;exact this
 refine Bz h1 ?_;rw[VA sides going seen t h0 h1]at q;refine#[sn,v,t,seen,rfl,ha.keep (TS.same s15),hok,hs,s15.seq hN,fq,λH6 s6=>?_];have iQ:=s15.trans s6;refine#[rfl,?_]
 have dI:∀H7,A0B H6 H7->(¬(Ba seen t="grant"/\AO sides (%[|15] going)=false))->(¬(Ba seen t="deny"/\AO sides (%[|29] going)=false))->Q (.str (Ba seen t)) H7:=λH7 s7 n1 n2=>by
  have:=q H7 (iQ.trans s7);rw[if_neg n1,if_neg n2]at this;exact this
 by_cases hg:Ba seen t="grant"
 ·have nd:¬Ba seen t="deny":=λz=>by rw[hg]at z;revert z;decide
  refine BL (by rw[hg]) ?_;refine#[sd,il,_,xs,sides,rfl,SqL.of (s6 _ _ hi5),ili,iQ.seq hX,hR.keep iQ,d3,λH7 s7=>?_]
  cases eG:AO sides (%[|15] going)with
  |false=>
   refine AD ?_;have:=q H7 (iQ.trans s7);rw[if_pos #[hg,eG]]at this;exact this
  |true=>
   refine Aw ?_;refine#[rfl,Bz (λz=>nd (by injection z)) (Aw ?_)];exact dI H7 s7 (λz=>by rw[eG]at z;exact nomatch z.2) (λz=>nd z.1)
 ·refine Bz (λz=>hg (by injection z)) (Aw ?_);refine#[rfl,?_];by_cases hd:Ba seen t="deny"
  ·refine BL (by rw[hd]) ?_;refine#[sd,ol,_,xs,sides,rfl,SqL.of (s6 _ _ ho5),oli,iQ.seq hX,hR.keep iQ,d3,λH7 s7=>?_]
   cases eG:AO sides (%[|29] going)with
   |false=>
    refine AD ?_;have:=q H7 (iQ.trans s7);rw[if_neg (λz=>hg z.1),if_pos #[hd,eG]]at this;exact this
   |true=>
    refine Aw ?_;exact dI H7 s7 (λz=>hg z.1) (λz=>by rw[eG]at z;exact nomatch z.2)
  ·refine Bz (λz=>hd (by injection z)) (Aw ?_);exact dI H6 (A0B.refl _) (λz=>hg z.1) (λz=>hd z.1)
end
theorem Fw:Dy X (binaryOp .FloorDiv) (rI (λ_ j=>0<j/\j.natAbs.log2<9000) λi j=>.int (i / j)):=YH λi j _ _ _ _ _ hc q=>by
 have h1:(0:Int)<j:=hc.1;exact floordiv_int %[|0] (by rw[zCN i %[|0]];exact q) (.inl (PyProof.noPylong_of_log2 hc.2))
section
variable {X:Cx}
end
inductive JA(K:PySem.W.Frag)(vs:List V)(H:Hp)(Q:VK)(E:XK):Prop|mk(st:Addr)(m:Nat)(xs:List V)(ts:List Tr)(_:vs=[.int m,.ref st])(_:H st=some %[|12])(_:A0J H xs ts)(_:(∀t∈ts,t.ok 5/\t.size<=23))(_:1<=m)(_:m<=5)(_:∀(l:Addr)(H':Hp),A0B H H'->H l=none->AK H' l (AY m ts)->Q (.ref l) H')
inductive Gs(vs:List V)(H:Hp)(Q:VK)(E:XK):Prop|mk(n:Int)(m:Nat)(_:vs=[.int n,.int m])(_:0<=n)(_:1<=m)(_:m<=5)(_:∀(l:Addr)(xs:List V)(ts:List Tr)(H':Hp),A0B H H'->H l=none->H' l=some %[|12]->A0J H' xs ts->(∀t∈ts,t.ok m/\t.ok 5/\t.size<=23)->ts.length<=3->AY m ts≠[]->Q (.ref l) H')
inductive Jk(K:PySem.W.Frag)(vs:List V)(H:Hp)(Q:VK)(E:XK):Prop|mk(r mk:Addr)(room:List Int)(marks:List (%[|17]))(_:vs=[.ref r,.ref mk])(_:SqL K H r (room.map V.int))(_:room.length<=32)(_:H mk=some (.lst (marks.map CA)))(_:marks.length<=5)(_:∀(l:Addr)(H':Hp),A0B H H'->H l=none->AK H' l (room.filter (Dg marks))->Q (.ref l) H')
theorem WM(m:Nat):Dw (2^m)≠[]:=λe=>by
 have:(0:Int)∈Dw (2^m):=A1V.mpr #[zDI _,by have:0<2^m:=Nat.pow_pos %[|2];omega];rw[e]at this;cases this
section
def A1Z:=Au K6 ["_law_many","_law_standing_here","_law_row","_law_sentence_here"] 2
def A1E:=Au G7 ["_law_n","_law_many","_law_found","_law_row","_law_turn","_law_sentence_here"] 2
def A1X:=Au KT ["_law_room","_law_marks","_law_found","_law_world","_law_bits"] 2
theorem NR(de:%[|5]):%[|8] "_law_room_of" BC 25 (JA K):=by
 refine de.h9.ok A1Z ?_;rintro bz f dm A outer s H _ Q E hr ⟨st,m,xs,ts,rfl,hS,hP,hok,dZ,dR,q⟩;have dE:=hP.len
 refine#[_,Aa (AC 2 A1Z.nd (Ax (HY de) hr Al (AI (pv 0))))
  (Aa (BB zAR rfl (AT (pv 1)) (Bo 3 A1Z.nd)
   (Ak (AC 2 A1Z.nd (Ax (Ki de) hr Al (AN (pv 3) (pv 2))))))
  (AX (pv 2))),?_]
 refine#[m,rfl,dZ,dR,λr4 H4 s4 r40 f7=>?_];refine#[#[_,SqL.of (s4 _ _ hS)],A0 (K:=K) (a:=st) (xs:=xs) (λi σ Hi=>Cd λ(v1:Option V)(r:Addr)=>Im (σ=[some (.int (m:Int)),some (.ref st),some (.ref r),v1]) (A0B H Hi) (H r=none) (AK Hi r (AY m (ts.take i)))) #[_,r4,rfl,s4,r40,f7] ?_ ?_ ?_]
 ·rintro i σ Hi _ ⟨v1,r,rfl,si,_⟩;exact SqL.of (si _ _ hS)
 ·rintro i y σ Hi hy ⟨v1,r,rfl,si,r0,hri⟩;obtain⟨t,ht,dN⟩:=B5 hP hy;obtain⟨o1,o2⟩:=hok t (zAJ ht);have lr:=(GR dR (ts.take i)).len;refine#[y,t,r,_,rfl,dN.keep (TS.same si),o1,o2,SqL.of hri,by omega,λl H5 s5 l0 hl=>?_];refine#[_,l,rfl,si.trans s5,si.free l0,?_];rw[zAQ,ht];show AK H5 l (AY m (ts.take i++[t]));rw[EE];exact hl
 rintro σ H5 ⟨v1,r,rfl,s5,r0,hr5⟩;rw[dE,zAP]at hr5;exact q r H5 s5 r0 hr5
theorem Fz(de:%[|5]):%[|8] "_law_standing" BC 25 Gs:=by
 refine de.h7.ok A1E ?_;rintro bz f dm A outer s H _ Q E hr ⟨n,m,rfl,hn,dZ,dR,q⟩
 refine#[_,Aa (AC 2 A1E.nd (Av Bi))
  (Aa (AC 3 A1E.nd (Ax (HY de) hr Al (AI (pv 1))))
  (Aa (BB zAR rfl (%[|68] (AI (Ap A4 (pv 0) Ad))) (Bo 4 A1E.nd)
   (Aa (AC 5 A1E.nd (Ax (Fo de) hr Al (Ag (Ap Fw %[|55] (Am Ay (Av (Ag Ad (AN (Ap E4 Ad Ad) (Ap E4 Ad Ad)))) (pv 4))) (AN Ad (pv 1)))))
   (Ak (Aq (AM (Nz hr.units0) (Ax (Ki de) hr Al (AN (pv 5) (pv 3))) (Av Bi))
    (Aa (AC 3 A1E.nd (Ax (Ki de) hr Al (AN (pv 5) (pv 3))))
    (Ak (As (A7 (pv 2) (AI (pv 5))))))
    Ah))))
  (AX (pv 2)))),?_]
 refine#[GD,λfl jP=>?_];have s1:=Ab jP %[|9];have fl1:upd H fl %[|9] fl=some %[|9]:=A0A;generalize upd H fl _=H1 at*;refine#[m,rfl,dZ,dR,λr4 H4 s4 r40 f7=>?_];have c0:0<=n%4:=zA1 _ %[|2];have c4:n%4<4:=zA3 _ %[|2];refine#[(by show (0:Int)<4;decide),(by show -(2^62)<=n%4;omega),(by show n%4<2^62;omega),Bn (n:=(n%4).toNat) (λi σ Hi=>cu λ(v1 v2:Option V)(r:Addr)(xs:List V)(ts:List Tr)=>cF (σ=[some (.int n),some (.int (m:Int)),some (.ref fl),some (.ref r),v1,v2]) (A0B H Hi) (r≠fl) (AK Hi r (AY m ts)) (Hi fl=some %[|12]) (A0J Hi xs ts) (∀t∈ts,t.ok m/\t.ok 5/\t.size<=23) (ts.length<=i) (AY m ts≠[])) #[_,_,r4,[],[],rfl,s1.trans s4,(Ai fl1 r40).symm,f7,s4 _ _ fl1,.nil,λt ht=>by simp at ht,zAA _,WM m] ?_ ?_]
 ·rintro i σ Hi hi ⟨v1,v2,r,xs,ts,rfl,si,nrf,hri,hfi,hP,hok,dj,dB⟩;rw[zB9];have hi3:i<3:=by omega
  have dE:=hP.len;have lr:=(GR dR ts).len
  obtain⟨c,hc,c1,c2⟩:∃c:Int,BV (DR %[|104] (i:Int)=some (.int c)) (0<c) (c.natAbs.log2<9000):=by
   match i,hi3 with
   |0,_=>exact#[1,rfl,by decide,by decide]
   |1,_=>exact#[_,rfl,by decide,by decide +kernel]
   |2,_=>exact#[_,rfl,by decide,by decide +kernel]
  refine#[%[|43],%[|81],%[|81],ML,λdl jj=>?_];have s5:=Ab jj (.lst %[|104]);have dl5:upd Hi dl (.lst %[|104]) dl=some (.lst %[|104]):=A0A;generalize upd Hi dl _=H5 at*;refine#[SqL.of dl5,hc,#[c1,c2],_,6,m,rfl,(by show 0<=n / 4 / c;exact zCA (zCA hn %[|2]) (Int.le_of_lt c1)),by decide,by decide,dZ,dR,λv t H6 s6 ha hokt hszt0=>?_];have hszt:t.size<=23:=by omega
  have si6:=s5.trans s6;have eW:t.ok 5:=Tr.ok.mono dR hokt;refine#[v,t,r,_,rfl,ha,eW,hszt,SqL.of (si6 _ _ hri),by omega,λl7 H7 s7 l70 hl7=>?_];refine#[GD,λe he=>?_];have s8:=Ab he %[|9];refine#[l7,e,_,rfl,rfl,SqL.of (s8 _ _ hl7),SqL.of A0A,?_];generalize upd H7 e _=H8 at*;have si8:=si6.trans (s7.trans s8);by_cases ce:(AY m ts).filter (λk=>tv t k == true)=[]
  ·rw[ce];refine Aw ?_;exact#[_,_,r,xs,ts,rfl,si.trans si8,nrf,si8 _ _ hri,si8 _ _ hfi,A0J.keep (TS.same si8) hP,hok,by omega,dB]
  ·have hne':(!(((AY m ts).filter (λk=>tv t k == true)).map V.int).isEmpty)=true:=by
    cases h:(AY m ts).filter (λk=>tv t k == true)with
    |nil=>exact absurd h ce
    |cons _ _=>rfl
   rw[hne'];refine AD ?_;refine#[v,t,r,_,rfl,ha.keep (TS.same (s7.trans s8)),eW,hszt,SqL.of (si8 _ _ hri),by omega,λl9 H9 s9 l90 fW=>?_];have si9:=si8.trans s9;have hf9:=si9 _ _ hfi;refine#[.inl #[rfl,_,SqL.of hf9],hf9,An %[|0],?_];have jY:TS H9 (upd H9 fl (.lst (xs++[v]))):=TS.lst hf9;have n9:l9≠fl:=(Ai (si8 _ _ hfi) l90).symm;refine#[_,_,l9,xs++[v],ts++[t],rfl,Ao (si.trans si9) jP _,n9,?_,A0A,A0J.snoc ((ha.keep (TS.same (s7.trans (s8.trans s9)))).keep jY) (A0J.keep jY (A0J.keep (TS.same si9) hP)),λu hu=>?_,by rw[zA];show ts.length+1<=i+1;omega,by rw[EE];exact ce]
   ·show upd H9 fl _ l9=_;rw[Af n9,EE];exact fW
   ·rcases List.mem_append.mp hu with h1|h1
    ·exact hok u h1
    ·rw[List.mem_singleton.mp h1];exact#[hokt,eW,hszt]
 ·rintro σ Hi ⟨v1,v2,r,xs,ts,rfl,si,nrf,hri,hfi,hP,hok,dj,dB⟩;exact q fl xs ts Hi si jP hfi hP hok %[|0] dB
theorem Fa(de:%[|5]):%[|8] "_law_seen_by" BC 1 (Jk K):=by
 refine de.h17.ok A1X ?_;rintro bz f dm A outer s H _ Q E hr ⟨r,mk,room,marks,rfl,hR,hl,hM,kC,q⟩
 refine#[_,Aa (AC 2 A1X.nd (Av Bi))
  (Aa (BB zAR rfl (AT (pv 0)) (Bo 3 A1X.nd)
   (Aa (AC 4 A1X.nd (A8 (N:=["_law_k","_law_world"]) (js:=[none,some 3]) (cl:=[("_law_world",s.heap.objs.size+2)]) #[rfl,rfl,rfl,(by intro p hp;simp at hp;rcases hp with rfl<;>rfl),rfl,rfl,rfl] (%[|68] (AI (%[|67] (AI (pv 1))))) (λc1=>(Bo 0 (show (["_law_k","_law_world"]:List Str).Nodup by decide +kernel))) (λc1=>Bk) (λc1=>(BF AH (Ap A4 (Ap Bf (pv 1) (Am Ay (Av (Ag Ad (Ag Ad (Ag Ad (AN Ad Ad))))) (pv 0))) Ad) Ad (Cl _)))))
   (Ak (Aq (Bv (AQ (Dp rfl) %[|10] de.T.all boot_all (AI (A8 (N:=["_law_k","_law_bits","_law_marks"]) (js:=[none,some 4,some 1]) (cl:=[("_law_marks",s.heap.objs.size+1),("_law_bits",s.heap.objs.size+3)]) #[rfl,rfl,rfl,(by intro p hp;simp at hp;rcases hp with rfl|rfl<;>rfl),rfl,rfl,rfl] (%[|68] (AI (%[|67] (AI (pv 1))))) (λc1=>(Bo 0 (show (["_law_k","_law_bits","_law_marks"]:List Str).Nodup by decide +kernel))) (λc1=>Bk) (λc1=>(IA (NY (FV (Am Ay (pv 2) (pv 0)))) (DD (BF AH (Am Ay (pv 2) (pv 0)) (Am Ay (pv 1) (pv 0)) (Cl _)))))))))
    (Ak (As (A7 (pv 2) (AI (pv 3)))))
    Ah))))
  (AX (pv 2))),?_]
 refine#[GD,λfl jP=>?_];have s1:=Ab jP %[|9];refine#[#[_,s1.seq hR],A0 (K:=K) (a:=r) (xs:=room.map V.int) (λi σ Hi=>Cd λ(v1 v2:Option V)=>BV (σ=[some (.ref r),some (.ref mk),some (.ref fl),v1,v2]) (A0B H Hi) (AK Hi fl ((room.take i).filter (Dg marks)))) #[_,_,rfl,s1,A0A] ?_ ?_ ?_]
 ·rintro i σ Hi _ ⟨v1,v2,rfl,si,_⟩;exact si.seq hR
 ·rintro i y σ Hi hy ⟨v1,v2,rfl,si,hfi⟩;rw[List.getElem?_map]at hy;obtain⟨wd,hwd,rfl⟩:=Option.map_eq_some_iff.mp hy;have hMi:=si _ _ hM;have hwi:i<room.length:=%[hwd|117].1;refine#[.inl (SqL.of hMi),%[|58],%[|58],λcc bl hbl=>Bn (n:=((((marks.map CA).length:Nat):Int)).toNat) (λj σ Hj=>∃(v0:Option V),BV (σ=[v0,some (.int wd)]) (A0B Hi Hj) (Hj bl=some (.lst ((List.range j).map λk=>V.bl (D2 k wd))))) ?_ ?_ ?_]
  ·exact#[_,rfl,Ab hbl _,A0A]
  ·rintro j σ Hj hj ⟨v0,rfl,sj,jJ⟩;rw[zB9]
   have hj5:j<marks.length:=by
    have h0:j<(((marks.map CA).length:Nat):Int).toNat:=hj;rw[List.length_map]at h0;omega
   refine AD #[SK,λpl dE=>?_];have s3:=Ab dE (.lst Ys);refine#[SqL.of A0A,RD %[|0],#[pow_pos j,Tv %[|0]],(by show (0:Int)<2;decide),rfl,?_];refine#[_,s3 _ _ jJ,An (by rw[List.length_map,zCD];omega),?_];refine#[_,rfl,Ao (sj.trans s3) hbl _,?_];rw[A0A,M3,List.range_succ,List.map_append];rfl
  rintro σ Hj ⟨v0,rfl,sj,jJ⟩
  have jJ:Hj bl=some (.lst ((List.range marks.length).map λk=>V.bl (D2 k wd))):=by
   have e:((((marks.map CA).length:Nat):Int)).toNat=marks.length:=by rw[List.length_map];omega
   rw[e]at jJ;exact jJ
  refine Dz rfl ?_;have hMj:=sj _ _ hMi;refine#[.inl (SqL.of hMj),%[|58],%[|58],λc2 al gf=>Bn (n:=((((marks.map CA).length:Nat):Int)).toNat) (λj σ Hk=>∃(v0:Option V),BV (σ=[v0,some (.ref bl),some (.ref mk)]) (A0B Hj Hk) (Hk al=some (.lst (((marks.take j).mapIdx (Ot wd)).map V.bl)))) ?_ ?_ ?_]
  ·exact#[_,rfl,Ab gf _,A0A]
  ·rintro j σ Hk hj ⟨v0,rfl,sk,je⟩;rw[zB9]
   have hj5:j<marks.length:=by
    have h0:j<(((marks.map CA).length:Nat):Int).toNat:=hj;rw[List.length_map]at h0;omega
   have hmi:marks[j]? = some marks[j]:=List.getElem?_eq_getElem hj5;generalize marks[j]=mm at hmi;have dN:DR (marks.map CA) (j:Int)=some (CA mm):=Ac (by rw[List.getElem?_map,hmi];rfl);have hbt:DR ((List.range marks.length).map λk=>V.bl (D2 k wd)) (j:Int)=some (V.bl (D2 j wd)):=Ac (by rw[List.getElem?_map,List.getElem?_range hj5];rfl)
   have dI:∀H5,A0B Hk H5->∃xs,BV (H5 al=some %[|12]) (xs.length<sizeLine) ((λσ Hk=>∃(v0:Option V),BV (σ=[v0,some (.ref bl),some (.ref mk)]) (A0B Hj Hk) (Hk al=some (.lst (((marks.take (j+1)).mapIdx (Ot wd)).map V.bl)))) [some (.int (j:Nat)),some (.ref bl),some (.ref mk)] (upd H5 al (.lst (xs++[V.bl (Ot wd j mm)])))):=λH5 s5=>by
    refine#[_,s5 _ _ je,An ?_,_,rfl,Ao (sk.trans s5) gf _,?_]
    ·rw[List.length_map,List.length_mapIdx,zAW];omega
    ·rw[A0A,Mp wd hmi,List.map_append];rfl
   cases mm with
   |none=>
    refine AD #[SqL.of (sk _ _ hMj),dN,AD ?_];obtain⟨_,a,b,c⟩:=dI _ (A0B.refl _);exact#[_,a,b,c]
   |some b=>
    refine AD #[SqL.of (sk _ _ hMj),dN,Aw ?_];refine#[SqL.of (sk _ _ hMj),dN,SqL.of (sk _ _ jJ),hbt,rfl,?_];have e:decide (CA (some b)=V.bl (D2 j wd))=Ot wd j (some b):=OI b (D2 j wd);rw[e];obtain⟨_,a,b,c⟩:=dI _ (A0B.refl _);exact#[_,a,b,c]
  rintro σ Hk ⟨v0,rfl,sk,je⟩
  have je:Hk al=some (.lst ((marks.mapIdx (Ot wd)).map V.bl)):=by
   have e:((((marks.map CA).length:Nat):Int)).toNat=marks.length:=by rw[List.length_map];omega
   rw[e,zAP]at je;exact je
  have sik:=sj.trans sk;refine#[al,_,rfl,SqL.of je,?_];have et:room.take (i+1)=room.take i++[wd]:=by rw[zAQ,hwd];rfl
  have hfk:=sik _ _ hfi
  cases hb:(marks.mapIdx (Ot wd)).all id with
  |true=>
   refine AD ?_;have hfk':Hk fl=some (.lst (((room.take i).filter (Dg marks)).map V.int)):=hfk;have ll:((room.take i).filter (Dg marks)).length<=(room.take i).length:=zAV _ _;refine#[.inl #[rfl,_,SqL.of hfk'],hfk',An (by rw[List.length_map];rw[zAW]at ll;omega),?_];refine#[_,_,rfl,Ao (si.trans sik) jP _,?_];have ea:Dg marks wd=true:=hb;show upd Hk fl _ fl=_;rw[A0A,et,zB8,zCY ea,zCK,List.map_append];rfl
  |false=>
   refine Aw ?_
   have ea:¬Dg marks wd=true:=by
    have:Dg marks wd=false:=hb;rw[this];decide
   refine#[_,_,rfl,si.trans sik,?_];rw[et,zB8,zCX ea,zCK,zA6];exact hfk
 ·rintro σ Hi ⟨v1,v2,rfl,si,hfi⟩;rw[List.length_map,zAP]at hfi;exact q fl Hi si jP hfi
end
structure bU(room:List Int)(W:Ta):Prop where
 ln:W.lefts≠[]
 l9:∀l∈W.lefts,l.length<=900
 s9:∀s∈W.sides,s.length<=900
 rl:W.rule="elder"\/W.rule="newer"
def DP(Z:Mz)(W:Ta)(t:Tr):Str:=if W.ended=true then Ba (Z.room.filter (Dg Z.marks)) t else Gb W.sides W.going (Z.room.filter (Dg Z.marks)) t
inductive Lu(K:PySem.W.Frag)(vs:List V)(H:Hp)(Q:VK)(E:XK):Prop|mk(M:%[|3])(Z:Mz)(p:Mt)(v:V)(t:Tr)(_:vs=[.ref Z.st,.ref p.d,v])(_:ModT M H Z)(_:p∈Z.ts)(_:bU Z.room p.w)(_:Z.room.length<=32)(_:Z.marks.length<=5)(_:t.At H v)(_:t.ok 5)(_:t.size<=23)(_:∀H',A0B H H'->Q (.str (DP Z p.w t)) H')
theorem Do{l:%[|25]}(h:l≠[]):l.getLastD []∈l:=by
 cases l with
 |nil=>exact absurd rfl h
 |cons x l=>rw[List.getLastD_cons];exact List.getLastD_mem_cons
theorem Ln{l:%[|25]}(h:l≠[]):l.headD []∈l:=by
 cases l with
 |nil=>exact absurd rfl h
 |cons x l=>exact List.mem_cons_self
section
theorem Ja(de:%[|5]):%[|8] "_law_due_in" BC 26 (Lu K):=by
 refine de.h25.ok A2G ?_;rintro bz f dm A outer s H _ Q E hr ⟨M,Z,p,v,t,rfl,hZ,hp,hW,hr32,dR,ha,eW,hsz,q⟩
 refine#[_,Aa (AC 3 A2G.nd (Ax (Fa de) hr Al (AN %[|54] %[|54])))
  (Aa (Aq (B6 (Am Az (pv 1) Ae) (λ_=>rfl))
   (AX (Ax (FQ de) hr Al (AN (pv 3) (pv 2))))
   Ah)
  (Aa (AC 4 A2G.nd (Am Ay (Am Az (pv 1) Ae) (D8 (AM AH (Am Az (pv 1) Ae) Ae) (HJ EY Ad) Ad)))
  (AX (Ax (WZ de) hr Al (Ag (Am Az (pv 1) Ae) (Ag (pv 4) (AN (pv 3) (pv 2)))))))),?_]
 have mp:=hZ.tt p hp;have rr:=A0D _ _ hZ.r;refine#[hZ.ob,EG,hZ.ob,Ft,Z.r,Z.mka,Z.room,Z.marks,rfl,SqL.of rr,hr32,A0D _ _ hZ.mkm,dR,λsn H1 s1 sn0 g9=>?_];have ls:(Z.room.filter (Dg Z.marks)).length<=900:=zAC (zAV _ _) %[|0];have eX:=mp.keep s1;refine#[eX.ob,Ew,p.w.ended,rfl,?_]
 cases he:p.w.ended with
 |true=>
  refine AD #[sn,v,t,_,rfl,ha.keep (TS.same s1),eW,hsz,SqL.of g9,ls,λH2 s2=>?_];have:=q H2 (s1.trans s2);unfold DP at this;rw[if_pos he]at this;exact this
 |false=>
  refine Aw ?_
  have q':∀H',A0B H H'->Q (.str (Gb p.w.sides p.w.going (Z.room.filter (Dg Z.marks)) t)) H':=λH' s'=>by
   have:=q H' s';unfold DP at this;rw[if_neg (by rw[he];decide)]at this;exact this
  refine#[eX.ob,Dr,eX.ob,VG,rfl,?_];by_cases f8:p.w.rule="elder"
  ·refine BL (by rw[f8]) ?_;obtain⟨gl,fZ,iP⟩:=Dl eX.lr hW.ln;have eg:p.w.going=p.w.lefts.getLastD []:=by unfold Ta.going;rw[if_pos f8];rfl
   have gl9:p.w.going.length<=900:=by rw[eg];exact hW.l9 _ (Do hW.ln)
   refine#[_,rfl,SqL.of eX.hl,fZ,?_];exists 28
  ·refine Bz (λz=>f8 (by injection z)) ?_;obtain⟨gl,fZ,iP⟩:=EF eX.lr hW.ln;have eg:p.w.going=p.w.lefts.headD []:=by unfold Ta.going;rw[if_neg f8];rfl
   have gl9:p.w.going.length<=900:=by rw[eg];exact hW.l9 _ (Ln hW.ln)
   refine#[SqL.of eX.hl,fZ,?_];exists 28
end
def Iq(st r mk tl ln:Addr)(m:Nat)(ts:List Tr):Mz:=#[st,r,mk,tl,ln,m,AY m ts,List.replicate m none,[.str (BQ m ts)],[]]
def YF(m:Nat)(r mk:Addr):List (Str×V):=[("many",.int (m:Int)),("room",.ref r),("marks",.ref mk)]
def XF(m:Nat)(r mk tl:Addr):List (Str×V):=[("many",.int (m:Int)),("room",.ref r),("marks",.ref mk),("talks",.ref tl)]
inductive Lv(vs:List V)(H:Hp)(Q:VK)(E:XK):Prop|mk(sd:Addr)(m:Nat)(xs:List V)(ts:List Tr)(_:vs=[.int m,.ref sd])(_:H sd=some %[|12])(_:A0J H xs ts)(_:(∀t∈ts,t.ok 5/\t.size<=23))(_:ts.length<=100)(_:1<=m)(_:m<=5)(_:∀(st r mk tl ln:Addr)(H':Hp),A0B H H'->H st=none->H r=none->H mk=none->H tl=none->H ln=none->H' st=some (.dK (dS (Ip (Iq st r mk tl ln m ts))))->AK H' r (AY m ts)->H' mk=some %[|77]->H' tl=some %[|9]->H' ln=some (.lst [.str (BQ m ts)])->Q (.ref st) H')
section
def A2I:=Au O4 ["_law_many","_law_standing_here","_law_line","_law_state_here"] 2
theorem QZ(de:%[|5]):%[|8] "_law_state" BC 26 Lv:=by
 refine de.h10.ok A2I ?_;rintro bz f dm A outer s H _ Q E hr ⟨sd,m,xs,ts,rfl,hst8,hP8,jZ,dj,dZ,dR,q⟩;have dE:=hP8.len
 refine#[_,Aa (AC 2 A2I.nd (Eh zB6 zCB zCC FE Ae (AI (Ap Te (Av (AN Ae (AJ Jw %[|10] de.T.str boot_str (AI (pv 0))))) (A8 (N:=["_law_sentence_here"]) (js:=[none]) (cl:=[]) #[rfl,rfl,rfl,zBU _,rfl,rfl,rfl] (AT (pv 1)) %["_law_sentence_here"|122] (λc1=>Bk) (λc1=>(Ax (GK de 23) hr Al (AI (pv 0)))))))))
  (Aa (AC 3 A2I.nd (Mi (ks:=["many","room","marks"]) (CQ (pv 0) (CQ (Ax (NR de) hr Al (AN (pv 0) (pv 1))) (CQ (A8 (N:=["_law_k"]) (js:=[none]) (cl:=[]) #[rfl,rfl,rfl,zBU _,rfl,rfl,rfl] (%[|68] (AI (pv 0))) %["_law_k"|122] (λc1=>Bk) (λc1=>Cm)) Uw))) %[|2] rfl rfl %[|59] %[|2] %[|2]))
  (Aa (B8 (Av Bi) (B9 (pv 3) Ae B4))
  (Aa (B8 (Av (AI (pv 2))) (B9 (pv 3) Ae B4))
  (AX (pv 3))))),?_]
 refine#[rfl,(m:Int),rfl,by omega,by omega,C4,λal gf=>?_];have s9:=Ab gf %[|88];have al9:upd H al %[|88] al=some %[|88]:=A0A;generalize upd H al _=H9 at*;have hP9:=A0J.keep (TS.same s9) hP8;refine#[#[_,SqL.of (s9 _ _ hst8)],λcc acc dq=>IF (vs:=ts.map λt=>V.str (Ch t)) (rest:=[]) (SqL.of (s9 _ _ hst8)) dq %[|0] %[|58] (λi y b hy hb fV gp R hR=>?_) (λv0 fV gp hac=>?_) none]
 ·obtain⟨t,ht,dN⟩:=B5 hP9 hy;obtain⟨o1,o2⟩:=jZ t (zAJ ht);rw[List.getElem?_map,ht]at hb;cases hb;refine#[y,t,rfl,dN.keep (TS.same gp),o1,o2,o2,λz gm hz iO=>?_];rw[FP hz];exact hR gm iO
 have l2:%[|73].length<=1000:=by
  rw[zA,List.length_map];show 2+ts.length<=1000;omega
 refine#[al,acc,_,_,rfl,rfl,gp _ _ al9,hac,(by rw[zA]at l2;exact zAC l2 %[|2]),λcl fR=>?_];have iO:=Ab fR (.lst %[|73]);have cl11:upd fV cl (.lst %[|73]) cl=some (.lst %[|73]):=A0A;generalize upd fV cl _=gm at*
 have ew:%[|73]=%[|101].map V.str:=by
  rw[zAS,zAS,zA0];rfl
 rw[ew]at cl11;have hsum:=FY (ts:=ts) λt ht=>zAC (jZ t ht).2 %[|2]
 have hdig:=Ji dR;refine#[Str.ofString " ",cl,_,rfl,rfl,SqL.of cl11,?_,?_]
 ·rw[zAS,zAS,zBQ,zBQ,zAO,zAO,List.length_map];have e5:(Str.ofString "house").length=5:=rfl;have e1:(Str.ofString " ").length=1:=rfl;show (Str.ofString "house").length+((Str.ofString (toString (m:Int))).length+((ts.map Ch).map (·.length)).sum)+(ts.length+1+1)*(Str.ofString " ").length<=16777216;rw[e1];omega
 have eln:Txt.join (Str.ofString " ") %[|101]=BQ m ts:=rfl;rw[eln];have u11:A0B H gm:=s9.trans (gp.trans iO);intro st eG;have st12:upd gm st (.dK []) st=some (.dK []):=A0A;have eE:=Ab eG (.dK []);generalize upd gm st _=i8 at*;have u12:=u11.trans eE;refine#[sd,m,xs,ts,rfl,u12 _ _ hst8,A0J.keep (TS.same u12) hP8,jZ,dZ,dR,λr jt fj r0 hr13=>?_];refine#[(by show -(2^62)<=(m:Int);omega),(by show (m:Int)<2^62;omega),λcc mk d9=>Bn (n:=((m:Int)).toNat) (λi σ Hi=>∃(v0:Option V),BV (σ=[v0]) (A0B jt Hi) (Hi mk=some (.lst (List.replicate i V.non)))) #[_,rfl,Ab d9 _,A0A] ?_ ?_]
 ·rintro i σ Hi hi ⟨v0,rfl,si,hmi⟩;refine AD #[_,hmi,An (by rw[zD];omega),?_];refine#[_,rfl,Ao si d9 _,?_];rw[A0A,List.replicate_succ']
 rintro σ fk ⟨v0,rfl,fv,hmk14⟩;rw[zBG]at hmk14;have kG:=fj.trans fv;refine#[kG _ _ st12,?_];have ez:(["many","room","marks"]:List Str).zip [V.int (m:Int),.ref r,.ref mk]=(YF m r mk):=rfl;rw[ez];have c15:A0B gm (upd fk st (.dK (dS (YF m r mk)))):=Ao (eE.trans kG) eG _;have d15:upd fk st (.dK (dS (YF m r mk))) st=some (.dK (dS (YF m r mk))):=A0A;have nrs:r≠st:=λe=>by rw[e,st12]at r0;cases r0
 have nms':mk≠st:=λe=>by rw[e,fj _ _ st12]at d9;cases d9
 have r15:AK (upd fk st (.dK (dS (YF m r mk)))) r (AY m ts):=(Af nrs).trans (fv _ _ hr13);have m15:upd fk st (.dK (dS (YF m r mk))) mk=some %[|77]:=(Af nms').trans hmk14;generalize upd fk st _=H15 at*;refine#[GD,λtl ir=>?_];have iQ:=Ab ir %[|9];have tl16:upd H15 tl %[|9] tl=some %[|9]:=A0A;generalize upd H15 tl _=H16 at*;have nts:tl≠st:=λe=>by rw[e,d15]at ir;cases ir
 refine#[st,_,_,rfl,rfl,iQ _ _ d15,(by show 3<=1000;decide),?_];have e4:Cv (YF m r mk) "talks" (.ref tl)=(XF m r mk tl):=by with_unfolding_all rfl
 rw[e4];have jU:A0B gm (upd H16 st (.dK (dS (XF m r mk tl)))):=Ao (c15.trans iQ) eG _;have d17:upd H16 st (.dK (dS (XF m r mk tl))) st=some (.dK (dS (XF m r mk tl))):=A0A;have r17:AK (upd H16 st (.dK (dS (XF m r mk tl)))) r (AY m ts):=(Af nrs).trans (iQ _ _ r15);have m17:upd H16 st (.dK (dS (XF m r mk tl))) mk=some %[|77]:=(Af nms').trans (iQ _ _ m15);have t17:upd H16 st (.dK (dS (XF m r mk tl))) tl=some %[|9]:=(Af nts).trans tl16;generalize upd H16 st _=H17 at*;refine#[OP,λln fw=>?_];have s18:=Ab fw (.lst [.str (BQ m ts)]);have ln18:upd H17 ln (.lst [.str (BQ m ts)]) ln=some (.lst [.str (BQ m ts)]):=A0A;generalize upd H17 ln _=H18 at*;have nls:ln≠st:=λe=>by rw[e,d17]at fw;cases fw
 refine#[st,_,_,rfl,rfl,s18 _ _ d17,(by show 4<=1000;decide),?_];have e5:Cv (XF m r mk tl) "lines" (.ref ln)=Ip (Iq st r mk tl ln m ts):=by with_unfolding_all rfl
 rw[e5];have c19:A0B gm (upd H18 st (.dK (dS (Ip (Iq st r mk tl ln m ts))))):=Ao (jU.trans s18) eG _;refine q st r mk tl ln _ (u11.trans c19) (u11.free eG) (u12.free r0) ((u12.trans fj).free d9) ((u11.trans c15).free ir) ((u11.trans jU).free fw) A0A ((Af nrs).trans (s18 _ _ r17)) ((Af nms').trans (s18 _ _ m17)) ((Af nts).trans (s18 _ _ t17)) ((Af nls).trans ln18)
end
theorem GJ(h:Em a=Em b):a=b:=by
 cases a with
 |mk x=>
  cases b with
  |mk y=>
   have h:x.toList=y.toList:=h
   have:x=y:=by
    cases x;cases y;simp at h;rw[h]
   rw[this]
theorem Co(a b:Str)(r:List Str):Em (Str.join " " (a::b::r))=Em a++[32]++Em (Str.join " " (b::r)):=by
 show Em (a++(" ":Str)++Str.join " " (b::r))=_;rw[AR,AR];rfl
theorem Dt(a:Str):Em (Str.join " " [a])=Em a:=rfl
theorem ED(ws:List Str):AE ws=Str.join " " ws:=eq_of_beq (join_plain_closes " " ws)
theorem Nb:Em (" ":Str)=[32]:=rfl
theorem Iu(k n:Str):AE ["fork",k,n]=("fork ":Str)++k++" "++n:=by
 refine GJ ?_;have:Em ("fork ":Str)=Em ("fork":Str)++[32]:=by decide
 rw[ED,Co,Co,Dt,AR,AR,AR,this,Nb];simp
section
variable {M:%[|3]}{H H':Hp}{Z:Mz}{q:Mt}
theorem A0T.inM(h:A0T M H p):∀c,c=p.d\/c=p.sa\/c=p.hl->H c≠none:=λc hc z=>by
 rcases hc with rfl|rfl|rfl
 ·rw[h.ob]at z;cases z
 ·rw[h.sa]at z;cases z
 ·rw[h.hl]at z;cases z
theorem ModT.full(h:ModT M H Z):∀c∈Bx Z,H c≠none:=λc hc z=>by
 unfold Bx at hc;simp only[zAD]at hc;rcases hc with rfl|rfl|rfl|hc
 ·rw[h.ob]at z;cases z
 ·rw[h.tl]at z;cases z
 ·rw[h.ln]at z;cases z
 ·obtain⟨p,hp,hc⟩:=List.mem_flatMap.mp hc;exists 10;exact (h.tt p hp).inM c hc z
theorem ModT.add(h:ModT M H Z)(s:A0B H H')(d0:H q.d=none)(a0:H q.sa=none)(l0:H q.hl=none)(n1:q.d≠q.sa)(n2:q.d≠q.hl)(n3:q.sa≠q.hl)(hq:A0T (q.d::q.sa::q.hl::M) H' q)(hn:q.nm∉Kx Z.ts):
  ModT (q.d::q.sa::q.hl::M) (upd H' Z.tl %[q.d|121]) {Z with ts:=Z.ts++[q]}:=by
 have hN:∀b∈[q.d,q.sa,q.hl],H b=none:=λb hb=>by
  simp only[zAD,zAB,or_false]at hb;rcases hb with rfl|rfl|rfl
  ·exact d0
  ·exact a0
  ·exact l0
 have hm:=h.more (N:=[q.d,q.sa,q.hl]) s hN;have full:=h.full;have tM:Z.tl∈q.d::q.sa::q.hl::M:=zAE [q.d,q.sa,q.hl] h.mt;have nd:=h.nd;unfold Bx at nd;obtain⟨m1,m2⟩:=List.nodup_cons.mp nd;obtain⟨m3,m4⟩:=List.nodup_cons.mp m2;obtain⟨m5,m6⟩:=List.nodup_cons.mp m4;have ne1:Z.st≠Z.tl:=λz=>m1 (by rw[z];simp)
 have ne2:Z.ln≠Z.tl:=λz=>m3 (by rw[<-z];simp)
 have tn:H Z.tl≠none:=λz=>by rw[h.tl]at z;cases z
 have e:∀{c:Addr},c≠Z.tl->upd H' Z.tl %[q.d|121] c=H' c:=λhc=>Af hc
 have b:But (q.d::q.sa::q.hl::M) H' (upd H' Z.tl %[q.d|121]):=But.upd tM;have qd:∀{c:Addr},c∈[q.d,q.sa,q.hl]->c≠Z.tl:=λhc z=>tn (by rw[<-z];exact hN _ hc)
 refine#[(e ne1).trans hm.ob,?_,(e ne2).trans hm.ln,hm.ms,hm.mt,hm.ml,b _ _ hm.r,b _ _ hm.mkm,λp hp=>?_,?_,?_]
 ·show upd H' Z.tl _ Z.tl=some (.lst ((Z.ts++[q]).map λp=>V.ref p.d));rw[A0A,List.map_append];rfl
 ·rcases List.mem_append.mp hp with hp|hp
  ·obtain⟨a1,a2,a3⟩:=B7 hp;exact (hm.tt p hp).but b (e λz=>m3 (by rw[<-z];exact List.mem_cons_of_mem _ a1)) (e λz=>m3 (by rw[<-z];exact List.mem_cons_of_mem _ a2)) (e λz=>m3 (by rw[<-z];exact List.mem_cons_of_mem _ a3))
  ·rw[List.mem_singleton.mp hp];exact hq.but b (e (qd %[|1])) (e (qd %[|1])) (e (qd %[|1]))
 ·have ee:Bx {Z with ts:=Z.ts++[q]}=Bx Z++[q.d,q.sa,q.hl]:=by
   unfold Bx Gc;rw[List.flatMap_append];rfl
  rw[ee];refine List.nodup_append.mpr #[h.nd,?_,λb hb c hc z=>full b hb (by rw[z];exact hN c hc)];simp[n1,n2,n3]
 ·show ((Z.ts++[q]).map (·.nm)).Nodup;rw[List.map_append];refine List.nodup_append.mpr #[h.na,List.nodup_cons.mpr #[(λz=>by cases z),zBI],λb hb c hc z=>hn ?_];have hc:c=q.nm:=List.mem_singleton.mp hc;rw[<-hc,<-z];exact hb
end
def Dh(p:Mt)(n:Str)(d sa hl:Addr):Mt:=#[n,d,p.sd,sa,hl,p.sds,p.sas,p.hls,p.v,p.w]
inductive Jj(vs:List V)(H:Hp)(Q:VK)(E:XK):Prop|mk(M:%[|3])(Z:Mz)(k n:Str)(_:vs=[.ref Z.st,.str k,.str n])(_:ModT M H Z)(_:Z.ts.length<900)(_:Z.ls.length<900)(_:k.length<=100)(_:n.length<=100)(_:(k∉Kx Z.ts->Q (.str "NoTalk") H))(_:(k∈Kx Z.ts->n∈Kx Z.ts->Q (.str "NameTaken") H))(_:(∀p∈Z.ts,p.nm=k->n∉Kx Z.ts->∀(d sa hl:Addr)(H':Hp),But [Z.tl,Z.ln] H H'->H d=none->H sa=none->H hl=none->ModT (d::sa::hl::M) H' {Z with ts:=Z.ts++[Dh p n d sa hl],ls:=Z.ls++[.str (AE ["fork",k,n])]}->Q (.str "done") H'))
theorem Qc:bootBuiltins "dict"=some (.type "dict"):=by rfl
section
def A2D:=Au Lf ["_law_state_here","_law_name_here","_law_other","_law_talk","_law_twin"] 3
theorem NA(de:%[|5]):%[|8] "_law_forked" BC 2 Jj:=by
 refine de.h21.ok A2D ?_;rintro bz f dm A outer s H _ Q E hr ⟨M,Z,k,n,rfl,hZ,ht9,fW,io,ji,qN,qT,q⟩
 refine#[_,Aa (AC 3 A2D.nd (Ax (Fy de) hr Al (AN (pv 0) (pv 1))))
  (Aa (Aq (FJ (FV (pv 3)))
   (AX Ae)
   Ah)
  (Aa (Aq (FJ (Kh (Ax (Fy de) hr Al (AN (pv 0) (pv 2)))))
   (AX Ae)
   Ah)
  (Aa (AC 4 A2D.nd (AJ M9 %[|10] de.zdict Qc (AI (pv 3))))
  (Aa (B8 (pv 2) (B9 (pv 4) Ae B4))
  (Aa (B8 (%[|63] (AI (Am Az (pv 3) Ae))) (B9 (pv 4) Ae B4))
  (Aa (B8 (%[|63] (AI (Am Az (pv 3) Ae))) (B9 (pv 4) Ae B4))
  (Aa (As (A7 %[|54] (AI (pv 4))))
  (Aa (As (A7 %[|54] (AI (Ap A6 (Ap A6 (Ap A6 Ae (pv 1)) Ae) (pv 2)))))
  (AX Ae))))))))),?_]
 refine#[M,Z,k,rfl,hZ,by omega,λc=>?_,λp hp ep=>?_]
 ·exact AD (qN c)
 have kin:k∈Kx Z.ts:=by rw[<-ep];exact zA9 hp
 refine Aw ?_;refine#[M,Z,n,rfl,hZ,by omega,λc=>?_,λp' eJ ep'=>?_]
 rotate_left
 ·exact AD (qT kin (by rw[<-ep'];exact zA9 eJ))
 refine Aw ?_;have mp:=hZ.tt p hp;refine#[p.d,_,rfl,mp.ob,λd hd=>?_];have s1:=Ab hd (.dK (dS (DL p)));have d1':upd H d (.dK (dS (DL p))) d=some (.dK (dS (DL p))):=A0A;generalize upd H d _=H1 at*;refine#[d,_,_,rfl,rfl,d1',(by show 8<=1000;decide),?_];have s2:A0B H (upd H1 d (.dK (dS (Cv (DL p) "name" (.str n))))):=Ao s1 hd _;have d2':upd H1 d (.dK (dS (Cv (DL p) "name" (.str n)))) d=some (.dK (dS (Cv (DL p) "name" (.str n)))):=A0A;generalize upd H1 d _=H2 at*;have kH:=mp.keep s2;refine#[kH.ob,FB,.inl (SqL.of kH.sa),λsa j6=>?_];have s3:=Ab j6 (.lst p.sas);have a3:upd H2 sa (.lst p.sas) sa=some (.lst p.sas):=A0A;generalize upd H2 sa _=H3 at*;refine#[d,_,_,rfl,rfl,s3 _ _ d2',(by show 8<=1000;decide),?_];have nad:sa≠d:=λe=>by rw[e,d2']at j6;cases j6
 have s4:A0B H (upd H3 d (.dK (dS %[|98]))):=Ao (s2.trans s3) hd _;have d4':upd H3 d (.dK (dS %[|98])) d=some (.dK (dS %[|98])):=A0A;have a4:upd H3 d (.dK (dS %[|98])) sa=some (.lst p.sas):=(Af nad).trans a3;generalize upd H3 d _=H4 at*;have mp4:=mp.keep s4;refine#[mp4.ob,Dr,.inl (SqL.of mp4.hl),λhl gM=>?_];have s5:=Ab gM (.lst p.hls);have l5:upd H4 hl (.lst p.hls) hl=some (.lst p.hls):=A0A;generalize upd H4 hl _=H5 at*;refine#[d,_,_,rfl,rfl,s5 _ _ d4',(by show 8<=1000;decide),?_];have nld:hl≠d:=λe=>by rw[e,d4']at gM;cases gM
 have nla:hl≠sa:=λe=>by rw[e,a4]at gM;cases gM
 have em:Cv %[|98] "helds" (.ref hl)=DL (Dh p n d sa hl):=by with_unfolding_all rfl
 rw[em];have s6:A0B H (upd H5 d (.dK (dS (DL (Dh p n d sa hl))))):=Ao (s4.trans s5) hd _;have d6':upd H5 d (.dK (dS (DL (Dh p n d sa hl)))) d=some (.dK (dS (DL (Dh p n d sa hl)))):=A0A;have a6:upd H5 d (.dK (dS (DL (Dh p n d sa hl)))) sa=some (.lst p.sas):=(Af nad).trans (s5 _ _ a4);have l6:upd H5 d (.dK (dS (DL (Dh p n d sa hl)))) hl=some (.lst p.hls):=(Af nld).trans l5;generalize upd H5 d _=H6 at*;have hsa0:H sa=none:=s2.free j6;have hhl0:H hl=none:=s4.free gM
 have hN:∀b∈[d,sa,hl],H b=none:=λb hb=>by
  simp only[zAD,zAB,or_false]at hb;rcases hb with rfl|rfl|rfl
  ·exact hd
  ·exact hsa0
  ·exact hhl0
 have kk:=C0 (M:=M) s6 hN;have hq:A0T (d::sa::hl::M) H6 (Dh p n d sa hl):=#[d6',a6,l6,by simp[Dh],by simp[Dh],by simp[Dh],kk _ _ mp.sd,mp.sr.keep kk,mp.tr.keep (TS.same kk),mp.en.keep kk,mp.lr.keep kk];have kI:=hZ.keep s6;refine#[kI.ob,Dn,.inl #[rfl,_,SqL.of kI.tl],kI.tl,An %[|58],?_];have ju:=hZ.add (q:=Dh p n d sa hl) s6 hd hsa0 hhl0 nad.symm nld.symm nla.symm hq c;have b7:But [Z.tl,Z.ln] H (upd H6 Z.tl %[d|121]):=(Aj s6).trans (But.upd %[|1]);have eq7:(Dh p n d sa hl).d=d:=rfl;rw[eq7]at ju;generalize upd H6 Z.tl _=H7 at*;refine#[ju.ob,CH,.inl #[rfl,_,SqL.of ju.ln],?_,?_,?_,ju.ln,An (by show Z.ls.length<=1000;omega),?_]
 ·exact zAC (show ("fork ":Str).length+k.length<=1000 by have:("fork ":Str).length=5:=rfl;omega) %[|2]
 ·have:(("fork ":Str)++k).length=5+k.length:=by rw[Bq,AR,zA,<-Bq];rfl
  exact zAC (show (("fork ":Str)++k).length+1<=1000 by omega) %[|2]
 ·have:(("fork ":Str)++k++(" ":Str)).length=5+k.length+1:=by rw[Bq,AR,zA,AR,zA,<-Bq];rfl
  exact zAC (show (("fork ":Str)++k++(" ":Str)).length+n.length<=1000 by omega) %[|2]
 have hZ8:=ju.wrote (.str (AE ["fork",k,n]));rw[Iu]at hZ8;have:=q p hp ep c d sa hl _ (b7.trans (But.upd (a:=Z.ln) %[|1])) hd hsa0 hhl0 (by rw[Iu];exact hZ8);exact this
end
theorem TY:(De U m).lookup ("learn":Str)=none:=by with_unfolding_all rfl
theorem Jl:(De U m).lookup ("refuse_letter":Str)=none:=by with_unfolding_all rfl
theorem bM(k:%[|17]):cf k=CA k:=by cases k<;>rfl
inductive Id(f:%[|17]->Str)(vs:List V)(H:Hp)(Q:VK)(E:XK):Prop|mk(k:%[|17])(_:vs=[CA k])(_:Q (.str (f k)) H)
def MK(m:Nat)(i:Int):Prop:=0<=i/\i<(m:Int)
instance(m:Nat)(i:Int):Decidable (MK m i):=by unfold MK;infer_instance
inductive Jv(C cL:Addr)(vs:List V)(H:Hp)(Q:VK)(E:XK):Prop|mk(x:Addr)(N:%[|3])(U:Hk)(m:Nat)(room:List Int)(marks:List (%[|17]))(ls:List V)(i:Int)(_:vs=[.ref x,.int i])(_:%[|76])(_:(¬MK m i->∀H',A0B H H'->E (.ref cL) none H'))(_:(MK m i->∀H',A0B H H'->Q .non H'))
inductive K8(C cL cW:Addr)(fm:%[|17]->Str)(vs:List V)(H:Hp)(Q:VK)(E:XK):Prop|mk(x:Addr)(N:%[|3])(U:Hk)(m:Nat)(room:List Int)(marks:List (%[|17]))(ls:List V)(i:Int)(k:%[|17])(_:vs=[.ref x,.int i,CA k])(_:%[|76])(_:(∀a∈N,H a≠none))(_:ls.length<900)(_:(¬MK m i->∀H',A0B H H'->E (.ref cL) none H'))(_:(∀j:Nat,i=(j:Int)->j<m->room.filter (Dg (marks.set j k))=[]->∀H',A0B H H'->E (.ref cW) none H'))(_:(∀j:Nat,i=(j:Int)->j<m->room.filter (Dg (marks.set j k))≠[]->∀(mk:Addr)(H':Hp),But [x,U.ln] H H'->(∀b,H b≠none->H' b≠none)->A0L N C H' x ⟨U.dx,U.sp,mk,U.tk,U.ln⟩ m room (marks.set j k) (ls++[.str (AE [Str.ofString "learn",⟨#v[97+j]⟩,fm k])])->Q .non H'))
section
variable {M:%[|3]}{C:Addr}{H H':Hp}{S:HSt}
theorem A0C.learnt{mk:Addr}{marks:List (%[|17])}{ls:List V}(h:%[|21])(b:But [S.x,S.U.ln] H H')(dB:∀c,H c≠none->H' c≠none)(hA:A0L M C H' S.x #[S.U.dx,S.U.sp,mk,S.U.tk,S.U.ln] S.m S.room marks ls):
  A0C M C cK H' {S with U:=#[S.U.dx,S.U.sp,mk,S.U.tk,S.U.ln],marks:=marks,ls:=ls}:=by
 have hx:=h.h
 have k:But M H H':=But.wide (λm hm=>by
  simp only[zAD,zAB,or_false]at hm
  rcases hm with rfl|rfl
  ·exact hx.mx
  ·exact hx.ml) b
 have same:∀{c:Addr}{o:HO},H c=some o->c≠S.x->c≠S.U.ln->H' c=some o:=λe n1 n2=>b.at e λz=>by
  simp only[zAD,zAB,or_false]at z;rcases z with z|z
  ·exact n1 z
  ·exact n2 z
 refine#[hA,same h.tk (AV h.tk hx.ob %[|11]) (AV h.tk hx.ln %[|11]),h.mt,λp hp=>#[?_,(h.tt p hp).2],h.nl,h.na,h.aa,λc hc=>dB c (h.fr c hc),h.tl];have t:=(h.tt p hp).1;have nl:=(List.nodup_cons.mp h.nl).1;have n1:p.u.gv≠S.U.ln:=λz=>nl (by rw[<-z];exact (CF hp).1)
 have n2:p.u.lf≠S.U.ln:=λz=>nl (by rw[<-z];exact (CF hp).2)
 have na:p.a≠S.x:=λe=>by
  have h1:=hx.ob;rw[<-e,t.ob]at h1;have h2:=zAH h1;injection h2 with _ _ h3
  exact Xq h3.symm
 refine t.but k ?_ ?_ ?_
 ·rw[t.ob];exact same t.ob na (AV t.ob hx.ln %[|11])
 ·rw[t.gv];exact same t.gv (AV t.gv hx.ob %[|11]) n1
 ·rw[t.lf];exact same t.lf (AV t.lf hx.ob %[|11]) n2
end
section
def A2Q:=Au OE ["self","letter","mark","marks"] 3
def Q1:=Au KQ ["self","letter"] 2
def MY:=Au Jb ["mark"] 1
theorem LC(de:%[|5]):%[|8] "mark_word" BC 1 (Id BR):=by
 refine de.h31.ok MY ?_;rintro bz f dm A outer s H _ Q E hr ⟨k,rfl,q⟩;refine#[_,AX (Am VL (Es (v:=.ref dM) %[|10] de.bMW rfl) (pv 0)),?_];exact#[dM,k,BR,rfl,(bM k).symm,de.hMW,q]
theorem G8(de:%[|5]):%[|39] "refuse_letter" (EI P w) 2 (Jv cH cL):=by
 refine de.h27.okX Q1 ?_;rintro bz f dm A outer s H _ Q E hr ⟨x,N,U,m,room,marks,ls,i,rfl,hT,qE,q⟩
 refine#[_,Ak (Aq (Cp Qv (pv 1) (AJ Gf %[|10] de.T.rng boot_range (AI %[|13])) %[|32])
   (Ak (Br (Ex:=E) BI rfl de.X_NoLetter.cls de.X_NoLetter.at_ de.X_NoLetter.ty %[|10] de.X_NoLetter.m (AI Ae) (hvl:=λ_ _ _ h=>#[by decide,h])))
   Ah),?_]
 refine#[hT.ob,de.HX.cl,de.HX.many,Kd,_,rfl,λr fu=>?_];have s2:=Ab fu (.rng 0 (m:Int));refine#[i,m,r,rfl,rfl,A0A,?_];by_cases c:MK m i
 ·have e:(!decide (0<=i/\i<(m:Int)))=false:=by rw[decide_eq_true (show 0<=i/\i<(m:Int) from c)];rfl
  rw[e];exact Aw (q c _ s2)
 ·have e:(!decide (0<=i/\i<(m:Int)))=true:=by rw[decide_eq_false (show ¬(0<=i/\i<(m:Int)) from c)];rfl
  rw[e];exact AD (qE c _ s2)
theorem Rz(de:%[|5]):%[|39] "learn" (EI P w) 4 (K8 cH cL cW BR):=by
 refine de.h34.okX A2Q ?_;rintro bz f dm A outer s H _ Q E hr ⟨x,N,U,m,room,marks,ls,i,k,rfl,hT,hN,hls,qL,qW,q⟩;have hl:=hT.wr.len;have kC:=hT.len;have dR:=hT.m5
 refine#[_,Aa (As %[(G8 de)|118])
  (Aa (AC 3 A2Q.nd (%[|63] (AI %[|13])))
  (Aa (B8 (pv 2) (B9 (pv 3) (pv 1) HI))
  (Aa (Aq (Ct (B6 (Ax (IP de) hr Al (AN %[|13] (pv 3))) (λ_=>rfl)))
   (Ak (Br (Ex:=E) BI rfl de.X_NoWorld.cls de.X_NoWorld.at_ de.X_NoWorld.ty %[|10] de.X_NoWorld.m (AI Ae) (hvl:=λ_ _ _ h=>#[by decide,h])))
   Ah)
  (Aa (BD (pv 0) (pv 3) rfl)
  (Ak (As (By (pv 0) de.HX.cl (Cg de) hr Al (AI (Av (Ag Ae (AN (Am F0 (Es (v:=.str "abcde") %[|10] de.bL #[_,rfl]) (pv 1)) (Ax (LC de) hr Al (AI (pv 2)))))))))))))),?_]
 refine#[hT.ob,Jl,x,N,U,m,room,marks,ls,i,rfl,hT,λh1 H' s'=>qL h1 H' s',λh1 H1 s1=>?_];obtain⟨j,ej⟩:=zBT h1.1
 have hj:j<m:=by
  have:=h1.2;omega
 have eA:=hT.keep s1;refine#[eA.ob,de.HX.cl,de.HX.marks,Hb,.inl (SqL.of eA.mk'),λmk d9=>?_];have s2:=Ab d9 (.lst (marks.map CA));have mk2:upd H1 mk (.lst (marks.map CA)) mk=some (.lst (marks.map CA)):=A0A;generalize upd H1 mk _=H2 at*;have eB:=eA.keep s2;obtain⟨nm,hnm⟩:∃nm,nm=marks.set j k:=#[_,rfl];have esv:(marks.map CA).set j (CA k)=nm.map CA:=by rw[hnm,List.map_set]
 have hix:Qq (marks.map CA).length i=some j:=by
  unfold Qq;rw[List.length_map,kC,ej,if_pos %[|0],if_pos %[|0],zBG]
 refine#[mk,_,i,j,rfl,rfl,mk2,hix,?_];rw[esv];have s3:A0B H1 (upd H2 mk (.lst (nm.map CA))):=Ao s2 d9 _;have mk3:upd H2 mk (.lst (nm.map CA)) mk=some (.lst (nm.map CA)):=A0A;generalize upd H2 mk (.lst (nm.map CA))=H3 at*;have iq:=eA.keep s3;have nml:nm.length=m:=by rw[hnm,List.length_set];exact kC
 refine#[iq.ob,de.HX.cl,de.HX.space,D3,U.sp,mk,room,nm,rfl,SqL.of iq.sp',by omega,mk3,by omega,λl4 H4 s4 l40 jq=>?_];have fv:=s3.trans s4;have g8:=eA.keep fv;have mk4:=s4 _ _ mk3;refine#[_,.inl #[_,SqL.of jq,rfl],?_];by_cases ce:room.filter (Dg nm)=[]
 ·rw[ce];exact AD (qW j ej hj (by rw[<-hnm];exact ce) H4 (s1.trans fv))
 have ene:(!((room.filter (Dg nm)).map V.int).isEmpty)=true:=by
  cases h:room.filter (Dg nm)with
  |nil=>exact absurd h ce
  |cons _ _=>rfl
 rw[ene];refine Aw ?_;obtain⟨U2,hU2⟩:∃U2:Hk,U2=⟨U.dx,U.sp,mk,U.tk,U.ln⟩:=#[_,rfl];refine#[g8.ob,de.HX.cl,de.HX.marks,(by show 5<1000;decide),?_];have ef:BY "marks" (.ref mk) (De U m)=De U2 m:=by rw[hU2];with_unfolding_all rfl
 rw[ef];have eln:U2.ln=U.ln:=by rw[hU2]
 have x5:upd H4 x (.ins cH U.dx (De U2 m)) x=some (.ins cH U2.dx (De U2 m)):=by
  rw[A0A,hU2]
 have b5:But [x,U.ln] H4 (upd H4 x (.ins cH U.dx (De U2 m))):=But.upd %[|1]
 have ln5:upd H4 x (.ins cH U.dx (De U2 m)) U.ln=some (.lst ls):=by
  rw[Af hT.xl.symm];exact g8.ln
 generalize upd H4 x _=H5 at*;refine#[x5,CK,_,i,_,rfl,rfl,SK,(by rw[ej];exact EC %[|0]),k,rfl,ML,λal gf=>?_];have s6:=Ab gf (.lst [.str "learn",.str #[#v[97+j]],.str (BR k)]);have al6:upd H5 al (.lst [.str "learn",.str #[#v[97+j]],.str (BR k)]) al=some (.lst [.str "learn",.str #[#v[97+j]],.str (BR k)]):=A0A;generalize upd H5 al _=H6 at*;have hf20:=JF k;refine#[x,al,U2,m,[Str.ofString "learn",#[#v[97+j]],BR k],ls,rfl,s6 _ _ x5,by rw[eln];exact s6 _ _ ln5,by omega,al6,?_,?_]
 ·have e5:(Str.ofString "learn").length=5:=rfl;have e1:(#[#v[97+j]]:Str).length=1:=rfl;show (Str.ofString "learn").length+((#[#v[97+j]]:Str).length+((BR k).length+0))+3<=100000;omega
 rw[eln];have b16:But [x,U.ln] H1 H6:=(Aj fv:But [x,U.ln] H1 H4).trans (b5.trans (Aj s6));have b7:But [x,U.ln] H1 (upd H6 U.ln %[|95]):=b16.trans (But.upd %[|1]);have b47:But [x,U.ln] H4 (upd H6 U.ln %[|95]):=b5.trans ((Aj s6:But [x,U.ln] H5 H6).trans (But.upd %[|1]))
 have x7:upd H6 U.ln %[|95] x=some (.ins cH U2.dx (De U2 m)):=by
  rw[Af hT.xl];exact s6 _ _ x5
 have l7:upd H6 U.ln %[|95] U.ln=some %[|95]:=A0A;generalize upd H6 U.ln _=H7 at*
 have bN:But N H4 H7:=But.wide (λa ha=>by
  simp only[zAD,zAB,or_false]at ha
  rcases ha with rfl|rfl
  ·exact hT.mx
  ·exact hT.ml) b47
 have mkN:mk∉N:=λz=>hN mk z (s1.free d9)
 subst hU2;refine q j ej hj (by rw[<-hnm];exact ce) mk H7 ((Aj s1:But [x,U.ln] H H1).trans b7) (λb hb e=>?_) #[x7,l7,hT.mx,hT.ml,bN _ _ g8.sp,?_,by rw[<-hnm];exact nml,hT.m1,dR,hT.wr,by rw[<-hnm];exact ce,by rw[zA];exact hls]
 ·cases e0:H b with
  |none=>exact hb e0
  |some o=>
   by_cases c1:b=x
   ·rw[c1,x7]at e;cases e
   ·by_cases c2:b=U.ln
    ·rw[c2,l7]at e;cases e
    ·have:=But.at (M:=[x,U.ln]) ((Aj s1:But [x,U.ln] H H1).trans b7) e0 (by simp[c1,c2]);rw[this]at e;cases e
 ·rw[<-hnm];exact bN _ _ (AW mk4 mkN)
end
theorem Vs(e:σ.set i (some v)=σ')(h:({D with nx:=u D}:BJ).nx σ' H):({nx:=VZ (Km (tC v) (Cr i)) u D,rt:=R,bk:=B,ct:=C}:BJ).nx σ H:=by
 subst e;exact h
theorem G2(a b:Str):AE ["learn",a,b]=("learn ":Str)++a++" "++b:=by
 refine GJ ?_;have:Em ("learn ":Str)=Em ("learn":Str)++[32]:=by decide
 rw[ED,Co,Co,Dt,AR,AR,AR,this,Nb];simp
theorem ModT.marked{M:%[|3]}{H:Hp}{Z:Mz}{mk:Addr}{nm:List (%[|17])}(h:ModT M H Z)(hm:mk∉M)(e:H mk=some (.lst (nm.map CA))):ModT M (upd H Z.st (.dK (dS (Ip {Z with mka:=mk,marks:=nm})))) {Z with mka:=mk,marks:=nm}:=by
 have eu:A1 M (upd H Z.st (.dK (dS (Ip {Z with mka:=mk,marks:=nm}))))=A1 M H:=BA h.ms;have nd:=h.nd;unfold Bx at nd;obtain⟨m1,m2⟩:=List.nodup_cons.mp nd;have ne:∀{c:Addr},c∈Z.tl::Z.ln::Gc Z.ts->c≠Z.st:=λhc z=>m1 (by rw[<-z];exact hc)
 refine#[A0A,(Af (ne %[|1])).trans h.tl,(Af (ne %[|1])).trans h.ln,h.ms,h.mt,h.ml,by rw[eu];exact h.r,by rw[eu];exact AW e hm,λp hp=>?_,h.nd,h.na];obtain⟨a1,a2,a3⟩:=B7 hp;exact (h.tt p hp).but (But.upd h.ms) (Af (ne (by simp[a1]))) (Af (ne (by simp[a2]))) (Af (ne (by simp[a3])))
inductive HE(vs:List V)(H:Hp)(Q:VK)(E:XK):Prop|mk(M:%[|3])(Z:Mz)(i:Int)(k:%[|17])(_:vs=[.ref Z.st,.int i,CA k])(_:ModT M H Z)(_:(∀b∈M,H b≠none))(_:Z.marks.length=Z.m)(_:Z.m<=5)(_:Z.room.length<=32)(_:Z.ls.length<900)(_:(¬MK Z.m i->Q (.str "NoLetter") H))(_:(∀j:Nat,i=(j:Int)->j<Z.m->Z.room.filter (Dg (Z.marks.set j k))=[]->∀H',A0B H H'->Q (.str "NoWorld") H'))(_:(∀j:Nat,i=(j:Int)->j<Z.m->Z.room.filter (Dg (Z.marks.set j k))≠[]->∀(mk:Addr)(H':Hp),But [Z.st,Z.ln] H H'->H mk=none->ModT M H' {Z with mka:=mk,marks:=Z.marks.set j k,ls:=Z.ls++[.str (AE ["learn",#[#v[97+j]],BR k])]}->Q (.str "done") H'))
section
def A1S:=Au II ["_law_state_here","_law_letter","_law_mark","_law_marks","_law_word"] 3
theorem MJ(de:%[|5]):%[|8] "_law_learnt" BC 2 HE:=by
 refine de.h18.ok A1S ?_;rintro bz f dm A outer s H _ Q E hr ⟨M,Z,i,k,rfl,hZ,hM,kC,dR,hr32,fW,qL,qW,q⟩
 refine#[_,Aa (Aq (HB (AM L8 (pv 1) Ad) (E5 (AM Uq (pv 1) %[|54]))).pt
   (AX Ae)
   Ah)
  (Aa (AC 3 A1S.nd (%[|63] (AI %[|54])))
  (Aa (B8 (pv 2) (B9 (pv 3) (pv 1) HI))
  (Aa (Aq (AM (HN hr.units0) (Ax (Fa de) hr Al (AN %[|54] (pv 3))) (Av Bi))
   (AX Ae)
   Ah)
  (Aa (B8 (pv 3) (B9 (pv 0) Ae B4))
  (Aa (AC 4 A1S.nd Ae)
  (Aa (Aq (FJ (Kh (pv 2)))
   (Ak (AC 4 A1S.nd (D8 (B6 (pv 2) (λ_=>rfl)) Ae Ae)))
   Ah)
  (Aa (As (A7 %[|54] (AI (Ap A6 (Ap A6 (Ap A6 Ae (Am F0 Ae (pv 1))) Ae) (pv 4)))))
  (AX Ae)))))))),?_]
 refine ?_;by_cases c0:i<0
 ·exact BL c0 (AD (qL λz=>by have:=z.1;omega))
 refine Bz c0 ?_;refine#[hZ.ob,O3,?_];by_cases c1:i>=(Z.m:Int)
 ·exact BL c1 (qL λz=>by have:=z.2;omega)
 refine Bz c1 ?_;obtain⟨j,ej⟩:=zBT (show 0<=i by omega);have hj:j<Z.m:=by omega
 have hmk0:=A0D _ _ hZ.mkm;refine#[hZ.ob,Ft,.inl (SqL.of hmk0),λmk d9=>?_];have s2:=Ab d9 (.lst (Z.marks.map CA));have mk2:upd H mk (.lst (Z.marks.map CA)) mk=some (.lst (Z.marks.map CA)):=A0A;generalize upd H mk _=H2 at*;obtain⟨nm,hnm⟩:∃nm,nm=Z.marks.set j k:=#[_,rfl];have esv:(Z.marks.map CA).set j (CA k)=nm.map CA:=by rw[hnm,List.map_set]
 have hix:Qq (Z.marks.map CA).length i=some j:=by
  unfold Qq;rw[List.length_map,kC,ej,if_pos %[|0],if_pos %[|0],zBG]
 refine#[mk,_,i,j,rfl,rfl,mk2,hix,?_];rw[esv];have s3:A0B H (upd H2 mk (.lst (nm.map CA))):=Ao s2 d9 _;have mk3:upd H2 mk (.lst (nm.map CA)) mk=some (.lst (nm.map CA)):=A0A;generalize upd H2 mk (.lst (nm.map CA))=H3 at*;have hZ3:=hZ.keep s3;have nml:nm.length=Z.m:=by rw[hnm,List.length_set];exact kC
 refine#[hZ3.ob,EG,Z.r,mk,Z.room,nm,rfl,SqL.of (A0D _ _ hZ3.r),hr32,mk3,by omega,λl4 H4 s4 l40 jq=>?_];refine#[GD,λe he=>?_];have s5:=Ab he %[|9];refine#[l4,e,_,rfl,rfl,SqL.of (s5 _ _ jq),SqL.of A0A,?_];rw[Ej];generalize upd H4 e _=H5 at*;have u5:=s3.trans (s4.trans s5);by_cases ce:Z.room.filter (Dg nm)=[]
 ·exact BL ce (qW j ej hj (by rw[<-hnm];exact ce) H5 u5)
 refine Bz ce ?_;have hZ5:=hZ.keep u5;have mk5:=(s4.trans s5) _ _ mk3;have mkM:mk∉M:=λz=>hM mk z d9
 refine#[Z.st,_,_,rfl,rfl,hZ5.ob,(by show 5<=1000;decide),?_];have em:Cv (Ip Z) "marks" (.ref mk)=Ip {Z with mka:=mk,marks:=nm}:=by with_unfolding_all rfl
 rw[em];have kI:=hZ5.marked mkM mk5;have b6:But [Z.st,Z.ln] H (upd H5 Z.st (.dK (dS (Ip {Z with mka:=mk,marks:=nm})))):=(Aj u5).trans (But.upd (a:=Z.st) %[|1]);generalize upd H5 Z.st _=H6 at*;refine Vs (i:=4) (v:=.str "unknown") rfl ?_;refine Da (λσ H'=>H'=H6/\σ=[some (.ref Z.st),some (.int i),some (CA k),some (.ref mk),some (.str (BR k))]) ?_ (λnext=>?_)
 rotate_left
 ·cases k with
  |none=>exact Aw (next _ _ #[rfl,rfl])
  |some b=>
   refine AD ?_
   cases b with
   |true=>exact#[true,rfl,AD (next _ _ #[rfl,rfl])]
   |false=>exact#[false,rfl,Aw (next _ _ #[rfl,rfl])]
 rintro σ H7 ⟨rfl,rfl⟩;have hf:=JF k;have l6:("learn ":Str).length=6:=rfl;have l1:(#[#v[97+j]]:Str).length=1:=rfl;have l7:(("learn ":Str)++(#[#v[97+j]]:Str)).length=7:=by rw[Bq,AR,zA];rfl
 have l8:(("learn ":Str)++(#[#v[97+j]]:Str)++(" ":Str)).length=8:=by rw[Bq,AR,zA,AR,zA];rfl
 refine#[kI.ob,CH,.inl #[rfl,_,SqL.of kI.ln],_,_,_,rfl,rfl,%[|2],(by rw[ej];exact EC %[|0]),?_,?_,?_,kI.ln,An (by show Z.ls.length<=1000;omega),?_]
 ·rw[l6,l1];decide
 ·rw[l7];decide
 ·rw[l8];exact zAC (show 8+(BR k).length<=1000 by omega) %[|2]
 have hZ8:=kI.wrote (.str (AE ["learn",#[#v[97+j]],BR k]));rw[G2]at hZ8;have:=q j ej hj (by rw[<-hnm];exact ce) mk _ (b6.trans (But.upd (a:=Z.ln) %[|1])) d9 (by rw[G2,<-hnm];exact hZ8);exact this
end
def FS(n:Str)(d sd sa hl:Addr)(sds hls:List V)(v:V)(m:Nat)(kd rl:Str)(t:Tr)(room:List Int):Mt:=#[n,d,sd,sa,hl,sds,[],hls,v,BX m kd rl t room]
theorem Qe(t:Tr)(room:List Int):C1 room [%[|15] room]=%[|15] room:=by
 unfold C1
 have:(room.filter λk=>[%[|15] room].any λs=>decide (k∈s))=room.filter λk=>tv t k == true:=by
  refine zC0 λk hk=>?_
  show (decide (k∈AG true t room) || false)=_;rw[zCO,CJ hk];cases tv t k<;>rfl
 rw[this];rfl
theorem NX(t:Tr)(room:List Int):C1 room [%[|29] room]=%[|29] room:=by
 unfold C1
 have:(room.filter λk=>[%[|29] room].any λs=>decide (k∈s))=room.filter λk=>tv t k == false:=by
  refine zC0 λk hk=>?_
  show (decide (k∈AG false t room) || false)=_;rw[zCO];unfold AG;rw[zA4,decide_eq_true_eq,List.mem_filter];exact#[λh=>h.2,λh=>#[hk,h]]
 rw[this];rfl
theorem Rr(t:Tr)(room:List Int):C1 room [%[|15] room,%[|29] room]=room:=by
 unfold C1;refine List.filter_eq_self.mpr λk hk=>?_
 show (decide (k∈AG true t room) || (decide (k∈AG false t room) || false))=true;rw[CJ hk]
 cases h:tv t k with
 |true=>rfl
 |false=>
  have:k∈AG false t room:=by
   unfold AG;rw[List.mem_filter];exact#[hk,by rw[h];rfl]
  rw[decide_eq_true this];rfl
theorem I8(ws:List Str):Txt.join (Str.ofString " ") ws=AE ws:=rfl
theorem Nw(h:A0N H H' xs rs):A0F H' xs rs:=by
 induction h with
 |nil=>exact .nil
 |cons hy _ ih=>
  obtain⟨p,e,_,hp⟩:=hy;exact .cons #[p,e,hp] ih
theorem Kz(hM:∀b∈M,H b≠none)(h:A0N H H' xs rs):A0F (A1 M H') xs rs:=by
 induction h with
 |nil=>exact .nil
 |cons hy _ ih=>
  obtain⟨p,e,h0,hp⟩:=hy;exact .cons #[p,e,AW hp λz=>hM p z h0] ih
theorem LA(s3:A0B Hi H3)(ha:Hi acc=some %[|12])(h2:H3 a2=some (.lst %[|86]))(n2:a2≠acc)(f2:H1 a2=none)(hR:A0N H1 Hi xs rs):A0N H1 (upd H3 acc (.lst (xs++[.ref a2]))) (xs++[.ref a2]) (rs++[row]):=by
 have go:∀{ys:List V}{qs:%[|25]},A0N H1 Hi ys qs->(∀y∈ys,y∈xs)->A0N H1 (upd H3 acc (.lst (xs++[.ref a2]))) (ys++[.ref a2]) (qs++[row]):=by
  intro ys qs h
  induction h with
  |nil=>
   intro _;exact .cons #[a2,rfl,f2,(Af n2).trans h2] .nil
  |@cons y q ys qs hy _ ih=>
   intro hs;obtain⟨p,rfl,hp0,hp⟩:=hy;refine .cons #[p,rfl,hp0,(Af λe=>?_).trans (s3 _ _ hp)] (ih λz hz=>hs z %[hz|116]);have hp:Hi p=some (.lst (q.map V.int)):=hp;rw[e,ha]at hp;have h1:=zAH hp;injection h1 with h1
   have hm:=hs (.ref p) List.mem_cons_self;rw[h1]at hm;obtain⟨k,_,z⟩:=List.mem_map.mp hm;cases z
 exact go hR λ_ h=>h
def av(n:Str)(sd:Addr)(rl kd:Str)(v:V):List (Str×V):=[("name",.str n),("sides",.ref sd),("rule",.str rl),("kind",.str kd),("sentence",v),("over",.bl false)]
def Zx(n:Str)(sd:Addr)(rl kd:Str)(v:V)(sa:Addr):List (Str×V):=[("name",.str n),("sides",.ref sd),("rule",.str rl),("kind",.str kd),("sentence",v),("over",.bl false),("said",.ref sa)]
inductive MC(vs:List V)(H:Hp)(Q:VK)(E:XK):Prop|mk(M:%[|3])(Z:Mz)(n kd rl:Str)(v:V)(t:Tr)(_:vs=[.ref Z.st,.str n,.str kd,v,.str rl])(_:ModT M H Z)(_:(∀b∈M,H b≠none))(_:Wr Z.room)(_:Z.ts.length<900)(_:Z.ls.length<900)(_:n.length<=100)(_:BK kd)(_:Cc rl)(_:t.At (A1 M H) v)(_:t.ok 5)(_:t.size<=23)(_:(n∈Kx Z.ts->∀H',A0B H H'->Q (.str "NameTaken") H'))(_:(n∉Kx Z.ts->[]∈AS kd t Z.room->∀H',A0B H H'->Q (.str "NoStanding") H'))(_:(n∉Kx Z.ts->[]∉AS kd t Z.room->∀(d sd sa hl:Addr)(sds hls:List V)(H':Hp),But [Z.tl,Z.ln] H H'->H d=none->H sa=none->H hl=none->ModT (d::sa::hl::M) H' {Z with ts:=Z.ts++[FS n d sd sa hl sds hls v Z.m kd rl t Z.room],ls:=Z.ls++[.str (AE ["begin",n,rl,kd,Ch t])]}->Q (.str "done") H'))
section
variable {bz:Heap}
def A1T:=Au Pm ["_law_state_here","_law_name_here","_law_kind","_law_sentence_here","_law_rule","_law_sides","_law_base","_law_talk"] 5
theorem Qi(de:%[|5]):%[|8] "_law_begun" BC 24 MC:=by
 refine de.h20.ok A1T ?_;rintro bz f dm A outer s H _ Q E hr ⟨M,Z,n,kd,rl,v,t,rfl,hZ,hM,wr,ht9,fW,ji,hkd,f8,dN,eW,hsz,qT,qS,q⟩
 refine#[_,Aa (Qs (i:=5) A1T.nd rfl (Or.inl rfl) (N:=["_law_way","_law_sentence_here","_law_state_here"]) (js:=[none,some 3,some 0]) (cl:=[("_law_state_here",s.heap.objs.size+1),("_law_sentence_here",s.heap.objs.size+2)]) #[rfl,rfl,rfl,(by intro p hp;simp at hp;rcases hp with rfl|rfl<;>rfl),rfl,rfl,rfl] (AT (Av (AN BN BN))) (λc1=>(Bo 0 (show (["_law_way","_law_sentence_here","_law_state_here"]:List Str).Nodup by decide +kernel))) (λc1=>Bk) (λc1=>(A8 (N:=["_law_world","_law_sentence_here","_law_way"]) (js:=[none,some 1,some 0]) (cl:=[("_law_way",c1.s.heap.objs.size+1+0),("_law_sentence_here",s.heap.objs.size+2)]) #[rfl,rfl,rfl,(by intro p hp;simp at hp;rcases hp with rfl|rfl<;>rfl),rfl,rfl,rfl] (AT %[|56]) (λc2=>(Bo 0 (show (["_law_world","_law_sentence_here","_law_way"]:List Str).Nodup by decide +kernel))) (λc2=>(CS (AM AH %[|92] (pv 2)))) (λc2=>(pv 0)))))
  (Aa (Aq (AM ER (pv 2) Ae)
   (Ak (AC 5 A1T.nd (D8 (AM AH (pv 2) Ae) (Ht OX (pv 5) JO (JI Ad)) (Ht OX (pv 5) (JI Ad) JO))))
   Ah)
  (Aa (Aq (FJ (Kh (Ax (Fy de) hr Al (AN (pv 0) (pv 1)))))
   (AX Ae)
   Ah)
  (Aa (Aq (Cp (RW hr.units9) (Av Bi) (pv 5) %[|32])
   (AX Ae)
   Ah)
  (Aa (AC 6 A1T.nd (D8 (AM ER (pv 2) Ae) (Am Ay (pv 5) Ad) %[|54]))
  (Aa (AC 7 A1T.nd (Mi (ks:=["name","sides","rule","kind","sentence","over"]) (CQ (pv 1) (CQ (pv 5) (CQ (pv 4) (CQ (pv 2) (CQ (pv 3) (CQ BN Uw)))))) %[|2] rfl rfl %[|59] %[|2] %[|2]))
  (Aa (B8 (Av Bi) (B9 (pv 7) Ae B4))
  (Aa (B8 (Av (AI (pv 6))) (B9 (pv 7) Ae B4))
  (Aa (As (A7 %[|54] (AI (pv 7))))
  (Aa (As (A7 %[|54] (AI (Eh zB6 zCB zCC FE Ae (AI (Av (Ag Ae (Ag (pv 1) (Ag (pv 4) (AN (pv 2) (Ax (GK de 23) hr Al (AI (pv 3)))))))))))))
  (AX Ae)))))))))),?_]
 refine#[C4,λL hL=>?_];have s1:=Ab hL (.lst [.bl true,.bl false]);have L1:upd H L (.lst [.bl true,.bl false]) L=some (.lst [.bl true,.bl false]):=A0A;generalize upd H L _=H1 at*;refine#[#[_,SqL.of L1],λcc acc dq=>?_];refine A0 (K:=K) (a:=L) (xs:=[.bl true,.bl false]) (λi σ Hi=>Cd λ(v0:Option V)(xs:List V)=>Im (σ=[v0,some v,some (.ref Z.st)]) (A0B H1 Hi) (Hi acc=some %[|12]) (A0N H1 Hi xs ([%[|15] Z.room,%[|29] Z.room].take i))) #[_,[],rfl,Ab dq _,A0A,.nil] ?_ ?_ ?_
 ·rintro i σ Hi _ ⟨v0,xs,rfl,si,_⟩;exact SqL.of (si _ _ L1)
 ·rintro i y σ Hi hy ⟨v0,xs,rfl,si,ha,hR⟩;have hi2:i<2:=%[hy|117].1
  obtain⟨b,rfl,hb⟩:∃b:Bool,y=.bl b/\[%[|15] Z.room,%[|29] Z.room].take (i+1)=[%[|15] Z.room,%[|29] Z.room].take i++[AG b t Z.room]:=by
   match i,hi2 with
   |0,_=>exact#[true,(zAH hy).symm,rfl]
   |1,_=>exact#[false,(zAH hy).symm,rfl]
  have hZi:=hZ.keep (s1.trans si);have rr:=A0D _ _ hZi.r;refine AD #[hZi.ob,EG,#[_,SqL.of rr],λc2 a2 dL=>BO (p:=λk=>tv t k == b) (rest:=[some v,some (.bl b)]) (SqL.of rr) dL (by have:=wr.len;omega) (λk hk H3 s3 R hRr=>?_) (λw0 H3 s3 h3=>?_) none]
  ·refine#[v,t,k,rfl,(dN.keep (TS.same A0D)).keep (TS.same (s1.trans (si.trans s3))),eW,hsz,λH4 s4=>#[rfl,?_]];have:=hRr H4 s4;rw[show (tv t k == b)=decide (V.bl (tv t k)=V.bl b) by cases tv t k<;>cases b<;>rfl]at this;exact this
  refine#[_,s3 _ _ ha,An ?_,?_]
  ·have:=hR.length;rw[zAW]at this;have e2:[%[|15] Z.room,%[|29] Z.room].length=2:=rfl;omega
  have n2:a2≠acc:=λe=>by rw[e,ha]at dL;cases dL
  exact#[_,_,rfl,Ao (si.trans s3) dq _,A0A,by rw[hb];exact LA s3 ha h3 n2 (si.free dL) hR]
 rintro σ H2 ⟨v0,xs,rfl,s2,ha,hR⟩;refine Dz rfl ?_;have hR2:A0N H1 H2 xs [%[|15] Z.room,%[|29] Z.room]:=hR
 obtain⟨il,ol,exs,iG,gX,hV,g5⟩:Cd λil ol=>Il (xs=[V.ref il,V.ref ol]) (H1 il=none) (AK H2 il (%[|15] Z.room)) (H1 ol=none) (AK H2 ol (%[|29] Z.room)):=by
  cases hR2 with
  |cons h1 hr=>
   cases hr with
   |cons h2 hn=>
    cases hn;obtain⟨a,rfl,a0,h1a⟩:=h1;obtain⟨b,rfl,b0,h2b⟩:=h2;exact#[a,b,rfl,a0,h1a,b0,h2b]
 subst exs;have u2:=s1.trans s2;refine Da (λσ H'=>Cd λ(sd:Addr)(sds:List V)=>Il (σ=[some (.ref Z.st),some (.str n),some (.str kd),some v,some (.str rl),some (.ref sd),none,none]) (A0B H2 H') (H sd=none) (H' sd=some (.lst sds)) (A0N H H' sds (AS kd t Z.room))) ?_ (λnext=>?_)
 rotate_left
 ·rcases hkd with rfl|rfl|rfl
  ·refine#[rfl,AD #[rfl,AD #[_,rfl,acc,_,rfl,SqL.of ha,λp hp=>?_]]];have ec:GG [V.ref il,V.ref ol] none (some 1)=[V.ref il]:=rfl;rw[ec];exact next _ _ #[p,_,rfl,Ab hp _,u2.free hp,A0A,.cons #[il,rfl,s1.free iG,Ab hp _ _ _ gX] .nil]
  ·refine#[rfl,AD #[rfl,Aw #[_,rfl,acc,_,rfl,SqL.of ha,λp hp=>?_]]];have ec:GG [V.ref il,V.ref ol] (some 1) none=[V.ref ol]:=rfl;rw[ec];exact next _ _ #[p,_,rfl,Ab hp _,u2.free hp,A0A,.cons #[ol,rfl,s1.free hV,Ab hp _ _ _ g5] .nil]
  ·exact#[rfl,Aw (next _ _ #[acc,_,rfl,A0B.refl _,s1.free dq,ha,.cons #[il,rfl,s1.free iG,gX] (.cons #[ol,rfl,s1.free hV,g5] .nil)])]
 rintro σ H3 ⟨sd,sds,rfl,s3,sd0,hsd,hsr⟩;have u3:=u2.trans s3;have hZ3:=hZ.keep u3;refine#[M,Z,n,rfl,hZ3,by omega,λc=>?_,λp' eJ ep'=>?_]
 rotate_left
 ·exact AD (qT (by rw[<-ep'];exact zA9 eJ) H3 u3)
 refine Aw ?_;refine#[GD,λe he=>?_];have s4:=Ab he %[|9];have e4:upd H3 e %[|9] e=some %[|9]:=A0A;generalize upd H3 e _=H4 at*;have u4:=u3.trans s4;have hsr4:=(Nw hsr).keep s4;have hsc4:=(Kz hM hsr).keep (Aj s4);refine#[e,sd,sds,(AS kd t Z.room).map List.isEmpty,rfl,rfl,SqL.of e4,SqL.of (s4 _ _ hsd),by rw[List.length_map];exact hsr4.len.symm,MA hsr4,?_];rw[IZ];by_cases gZ:[]∈AS kd t Z.room
 ·rw[decide_eq_true gZ];exact AD (qS c gZ H4 u4)
 rw[decide_eq_false gZ];refine Aw ?_;have hZ4:=hZ.keep u4;have hsd4:=s4 _ _ hsd;refine Da (λσ H'=>∃(ba:Addr),BV (σ=[some (.ref Z.st),some (.str n),some (.str kd),some v,some (.str rl),some (.ref sd),some (.ref ba),none]) (H'=H4) (AK (A1 M H4) ba (C1 Z.room (AS kd t Z.room)))) ?_ (λnext=>?_)
 rotate_left
 ·rcases hkd with rfl|rfl|rfl
  ·obtain⟨ba,eO,fg⟩:=EF hsc4 %[|11];refine#[rfl,AD #[SqL.of hsd4,eO,next _ _ #[ba,rfl,rfl,?_]]];have eb:C1 Z.room (AS "true" t Z.room)=%[|15] Z.room:=Qe t Z.room;rw[eb];exact fg
  ·obtain⟨ba,eO,fg⟩:=EF hsc4 %[|11];refine#[rfl,AD #[SqL.of hsd4,eO,next _ _ #[ba,rfl,rfl,?_]]];have eb:C1 Z.room (AS "false" t Z.room)=%[|29] Z.room:=NX t Z.room;rw[eb];exact fg
  ·refine#[rfl,Aw #[hZ4.ob,EG,next _ _ #[Z.r,rfl,rfl,?_]]];have eb:C1 Z.room (AS "doubt" t Z.room)=Z.room:=Rr t Z.room;rw[eb];exact hZ4.r
 rintro σ H5 ⟨ba,rfl,rfl,hba⟩;intro d hd;refine#[A0A,?_];have ez:(["name","sides","rule","kind","sentence","over"]:List Str).zip [V.str n,.ref sd,.str rl,.str kd,v,.bl false]=av n sd rl kd v:=rfl;rw[ez];have s6:A0B H5 (upd (upd H5 d (.dK [])) d (.dK (dS (av n sd rl kd v)))):=Ao (Ab hd _) hd _;have d6:upd (upd H5 d (.dK [])) d (.dK (dS (av n sd rl kd v))) d=some (.dK (dS (av n sd rl kd v))):=A0A;generalize upd (upd H5 d (.dK [])) d _=H6 at*;refine#[GD,λsa j6=>?_];have s7:=Ab j6 %[|9];have a7:upd H6 sa %[|9] sa=some %[|9]:=A0A;generalize upd H6 sa _=H7 at*;have nad:sa≠d:=λe=>by rw[e,d6]at j6;cases j6
 refine#[d,_,_,rfl,rfl,s7 _ _ d6,(by show 6<=1000;decide),?_];have e7:Cv (av n sd rl kd v) "said" (.ref sa)=Zx n sd rl kd v sa:=by with_unfolding_all rfl
 rw[e7];have s8:A0B H5 (upd H7 d (.dK (dS (Zx n sd rl kd v sa)))):=Ao (s6.trans s7) hd _;have d8:upd H7 d (.dK (dS (Zx n sd rl kd v sa))) d=some (.dK (dS (Zx n sd rl kd v sa))):=A0A;have a8:upd H7 d (.dK (dS (Zx n sd rl kd v sa))) sa=some %[|9]:=(Af nad).trans a7;generalize upd H7 d _=H8 at*;refine#[OP,λhl gM=>?_];have s9:=Ab gM (.lst [.ref ba]);have l9:upd H8 hl (.lst [.ref ba]) hl=some (.lst [.ref ba]):=A0A;generalize upd H8 hl _=H9 at*;have nld:hl≠d:=λe=>by rw[e,d8]at gM;cases gM
 have nla:hl≠sa:=λe=>by rw[e,a8]at gM;cases gM
 refine#[d,_,_,rfl,rfl,s9 _ _ d8,(by show 7<=1000;decide),?_];have e9:Cv (Zx n sd rl kd v sa) "helds" (.ref hl)=DL %[|79]:=by with_unfolding_all rfl
 rw[e9];have gp:A0B H5 (upd H9 d (.dK (dS (DL %[|79])))):=Ao (s8.trans s9) hd _;have d10:upd H9 d (.dK (dS (DL %[|79]))) d=some (.dK (dS (DL %[|79]))):=A0A;have a10:upd H9 d (.dK (dS (DL %[|79]))) sa=some %[|9]:=(Af nad).trans (s9 _ _ a8);have l10:upd H9 d (.dK (dS (DL %[|79]))) hl=some (.lst [.ref ba]):=(Af nld).trans l9;generalize upd H9 d _=fV at*;have hsa5:H5 sa=none:=s6.free j6;have hhl5:H5 hl=none:=s8.free gM
 have hN:∀b∈[d,sa,hl],H5 b=none:=λb hb=>by
  simp only[zAD,zAB,or_false]at hb;rcases hb with rfl|rfl|rfl
  ·exact hd
  ·exact hsa5
  ·exact hhl5
 have kk:=C0 (M:=M) gp hN;have u10:=u4.trans gp;have sdM:sd∉M:=λz=>hM sd z sd0
 have hq:A0T (d::sa::hl::M) fV %[|79]:=#[d10,a10,l10,by simp[FS],by simp[FS],by simp[FS],kk _ _ (AW hsd4 sdM),hsc4.keep kk,(dN.keep (TS.same (Aj u4))).keep (TS.same kk),.nil,.cons #[ba,rfl,kk _ _ hba] .nil];have hZ10:=hZ.keep u10;refine#[hZ10.ob,Dn,.inl #[rfl,_,SqL.of hZ10.tl],hZ10.tl,An %[|58],?_];have j7:=hZ4.add (q:=FS n d sd sa hl sds [.ref ba] v Z.m kd rl t Z.room) gp hd hsa5 hhl5 nad.symm nld.symm nla.symm hq c;have ip:But [Z.tl,Z.ln] H (upd fV Z.tl %[d|121]):=(Aj u10).trans (But.upd (a:=Z.tl) %[|1])
 have at11:t.At (upd fV Z.tl %[d|121]) v:=by
  have k2:A0B (A1 M H) (A1 M (upd fV Z.tl %[d|121])):=(Aj u10).trans (But.upd hZ.mt);exact dN.keep (TS.same (k2.trans A0D))
 have eq11:%[|79].d=d:=rfl;rw[eq11]at j7;generalize upd fV Z.tl _=gm at*;refine#[j7.ob,CH,.inl #[rfl,_,SqL.of j7.ln],rfl,v,t,rfl,at11,eW,hsz,hsz,λz i8 hz eE=>?_];have ezz:=FP hz;subst ezz;refine#[SK,λl fU=>?_];have fj:=Ab fU (.lst (([("begin":Str),n,rl,kd,Ch t]).map V.str));have l13:upd i8 l (.lst (([("begin":Str),n,rl,kd,Ch t]).map V.str)) l=some (.lst (([("begin":Str),n,rl,kd,Ch t]).map V.str)):=A0A;have el:[V.str "begin",.str n,.str rl,.str kd,.str (Ch t)]=([("begin":Str),n,rl,kd,Ch t]).map V.str:=rfl;rw[el];generalize upd i8 l _=jt at*;have hZ13:=j7.keep (eE.trans fj);refine#[_,l,[("begin":Str),n,rl,kd,Ch t],rfl,rfl,SqL.of l13,?_,?_]
 ·have lk:kd.length<=5:=by rcases hkd with rfl|rfl|rfl<;>decide
  have lr:rl.length<=5:=by rcases f8 with rfl|rfl<;>decide
  have lb:("begin":Str).length=5:=rfl;have l1:(Str.ofString " ").length=1:=rfl;have:=Fk t;show ("begin":Str).length+(n.length+(rl.length+(kd.length+((Ch t).length+0))))+5*(Str.ofString " ").length<=16777216;rw[l1];omega
 rw[I8];refine#[hZ13.ln,An (by show Z.ls.length<=1000;omega),?_];have hZ14:=hZ13.wrote (.str (AE ["begin",n,rl,kd,Ch t]));exact q c gZ d sd sa hl sds [.ref ba] _ ((ip.trans (Aj (eE.trans fj))).trans (But.upd (a:=Z.ln) %[|1])) (u4.free hd) (u4.free hsa5) (u4.free hhl5) hZ14
end
def Ef(ts:List Mt)(k:Str)(p':Mt):List Mt:=ts.map λq=>if q.nm=k then p' else q
theorem Ti(h:q∈Ef ts k p'):(q∈ts/\q.nm≠k)\/q=p':=by
 obtain⟨p,hp,e⟩:=List.mem_map.mp h;by_cases c:p.nm=k
 ·rw[if_pos c]at e;exact .inr e.symm
 ·rw[if_neg c]at e;rw[<-e];exact .inl #[hp,c]
theorem Ml{β:Type}{f:Mt->β}(h:∀p∈ts,p.nm=k->f p'=f p):(Ef ts k p').map f=ts.map f:=by
 unfold Ef;rw[zA0];refine zB4 λp hp=>?_
 show f (if p.nm=k then p' else p)=f p;by_cases c:p.nm=k
 ·rw[if_pos c];exact h p hp c
 ·rw[if_neg c]
theorem M8{k:Str}{p':Mt}:∀{ts:List Mt},(∀p∈ts,p.nm=k->p'.d=p.d/\p'.sa=p.sa/\p'.hl=p.hl)->Gc (Ef ts k p')=Gc ts
 |[],_=>rfl
 |p::ts,h=>by
  have ih:=M8 (k:=k) (p':=p') (ts:=ts) λq hq=>h q %[hq|116]
  have e:Gc (Ef (p::ts) k p')=[(if p.nm=k then p' else p).d,(if p.nm=k then p' else p).sa,(if p.nm=k then p' else p).hl]++Gc (Ef ts k p'):=rfl;rw[e,ih];by_cases c:p.nm=k
  ·rw[if_pos c];obtain⟨h1,h2,h3⟩:=h p List.mem_cons_self c;rw[h1,h2,h3];rfl
  ·rw[if_neg c];rfl
theorem OZ(h:a.Sublist b):(Gc a).Sublist (Gc b):=by
 induction h with
 |slnil=>exact zB3 _
 |cons x _ ih=>exact List.Sublist.trans ih (List.sublist_append_right [x.d,x.sa,x.hl] _)
 |cons_cons x _ ih=>exact List.Sublist.append (zB3 [x.d,x.sa,x.hl]) ih
theorem Ni(nd:(Gc ts).Nodup)(hp:p∈ts)(hq:q∈ts)(ne:p≠q)(b:Addr)(hb:b=p.d\/b=p.sa\/b=p.hl):b≠q.d/\b≠q.sa/\b≠q.hl:=by
 induction ts with
 |nil=>cases hp
 |cons x ts ih=>
  obtain⟨_,n2,n3⟩:=List.nodup_append.mp (show ([x.d,x.sa,x.hl]++Gc ts).Nodup from nd);rcases List.mem_cons.mp hp with h1|h1
  ·rcases List.mem_cons.mp hq with h2|h2
   ·exact absurd (h1.trans h2.symm) ne
   ·have fg:b∈[x.d,x.sa,x.hl]:=by rw[<-h1];simpa using hb
    obtain⟨q1,q2,q3⟩:=B7 h2;exact#[n3 b fg _ q1,n3 b fg _ q2,n3 b fg _ q3]
  ·obtain⟨p1,p2,p3⟩:=B7 h1
   have fg:b∈Gc ts:=by
    rcases hb with rfl|rfl|rfl
    ·exact p1
    ·exact p2
    ·exact p3
   rcases List.mem_cons.mp hq with h2|h2
   ·rw[h2];exact#[λe=>n3 x.d %[|1] b fg e.symm,λe=>n3 x.sa %[|1] b fg e.symm,λe=>n3 x.hl %[|1] b fg e.symm]
   ·exact ih n2 h1 h2
section
variable {M:%[|3]}{H H':Hp}{Z:Mz}
theorem ModT.alter(h:ModT M H Z)(hp:p∈Z.ts)(b:But [p.d,p.sa,p.hl] H H')(e1:p'.d=p.d)(e2:p'.sa=p.sa)(e3:p'.hl=p.hl)(en:p'.nm=p.nm)(ht:A0T M H' p'):ModT M H' {Z with ts:=Ef Z.ts p.nm p' }:=by
 have t0:=h.tt p hp
 have k:But M H H':=But.wide (λm hm=>by
  simp only[zAD,zAB,or_false]at hm
  rcases hm with rfl|rfl|rfl
  ·exact t0.md
  ·exact t0.ms
  ·exact t0.mh) b
 have same:∀{c:Addr}{o:HO},H c=some o->c≠p.d->c≠p.sa->c≠p.hl->H' c=some o:=λe n1 n2 n3=>b.at e λz=>by
  simp only[zAD,zAB,or_false]at z;rcases z with z|z|z
  ·exact n1 z
  ·exact n2 z
  ·exact n3 z
 have nd:=h.nd;unfold Bx at nd;obtain⟨m1,m2⟩:=List.nodup_cons.mp nd;obtain⟨m3,m4⟩:=List.nodup_cons.mp m2;obtain⟨m5,m6⟩:=List.nodup_cons.mp m4;obtain⟨q1,q2,q3⟩:=B7 hp;have sx:∀{c:Addr}{o:HO},c∉Gc Z.ts->H c=some o->H' c=some o:=λhn e=>same e (λz=>hn (by rw[z];exact q1)) (λz=>hn (by rw[z];exact q2)) (λz=>hn (by rw[z];exact q3))
 have uni:∀q∈Z.ts,q.nm=p.nm->q=p:=λq hq e=>BW h.na hq hp e
 refine#[sx (λz=>m1 %[(List.mem_cons_of_mem _ z)|116]) h.ob,?_,sx m5 h.ln,h.ms,h.mt,h.ml,k _ _ h.r,k _ _ h.mkm,λq hq=>?_,?_,?_]
 ·show H' Z.tl=some (.lst ((Ef Z.ts p.nm p').map λq=>V.ref q.d));rw[Ml (f:=λq=>V.ref q.d) λq hq e=>by rw[uni q hq e,e1]];exact sx (λz=>m3 %[z|116]) h.tl
 ·rcases Ti hq with⟨hq,hn⟩|rfl
  ·have tq:=h.tt q hq;have ne:q≠p:=λe=>hn (by rw[e])
   have g1:=Ni m6 hq hp ne q.d (.inl rfl);have g2:=Ni m6 hq hp ne q.sa (.inr (.inl rfl));have g3:=Ni m6 hq hp ne q.hl (.inr (.inr rfl));refine tq.but k ?_ ?_ ?_
   ·rw[tq.ob];exact same tq.ob g1.1 g1.2.1 g1.2.2
   ·rw[tq.sa];exact same tq.sa g2.1 g2.2.1 g2.2.2
   ·rw[tq.hl];exact same tq.hl g3.1 g3.2.1 g3.2.2
  ·exact ht
 ·have ee:Bx {Z with ts:=Ef Z.ts p.nm p' }=Bx Z:=by
   unfold Bx;show Z.st::Z.tl::Z.ln::Gc (Ef Z.ts p.nm p')=_;rw[M8 λq hq e=>by rw[uni q hq e];exact#[e1,e2,e3]]
  rw[ee];exact h.nd
 ·show ((Ef Z.ts p.nm p').map (·.nm)).Nodup;rw[Ml (f:=λq=>q.nm) λq hq e=>by rw[uni q hq e,en]];exact h.na
theorem ModT.drop{tl:Addr}(h:ModT M H Z)(s:A0B H H')(t0:H tl=none)(t1:H' tl=some (.lst ((Z.ts.filter λp=>decide (p.nm≠k)).map λp=>V.ref p.d))):
  ModT (tl::M) (upd H' Z.st (.dK (dS (Ip {Z with tl:=tl,ts:=Z.ts.filter λp=>decide (p.nm≠k)})))) {Z with tl:=tl,ts:=Z.ts.filter λp=>decide (p.nm≠k)}:=by
 have hN:∀b∈[tl],H b=none:=λb hb=>by rw[List.mem_singleton.mp hb];exact t0
 have hm:=h.more (N:=[tl]) s hN;have full:=h.full;have sub:(Z.ts.filter λp=>decide (p.nm≠k)).Sublist Z.ts:=zAM;have nd:=h.nd;unfold Bx at nd;obtain⟨m1,m2⟩:=List.nodup_cons.mp nd;obtain⟨m3,m4⟩:=List.nodup_cons.mp m2;obtain⟨m5,m6⟩:=List.nodup_cons.mp m4;have sM:Z.st∈tl::M:=List.mem_cons_of_mem _ h.ms;have b:But (tl::M) H' (upd H' Z.st (.dK (dS (Ip {Z with tl:=tl,ts:=Z.ts.filter λp=>decide (p.nm≠k)})))):=But.upd sM;have nts:tl≠Z.st:=λe=>full Z.st (by simp[Bx]) (by rw[<-e];exact t0)
 have ne:∀{c:Addr},c∈Z.ln::Gc Z.ts->c≠Z.st:=λhc z=>m1 (by rw[<-z];exact List.mem_cons_of_mem _ hc)
 have j8:(Gc (Z.ts.filter λp=>decide (p.nm≠k))).Sublist (Gc Z.ts):=OZ sub;refine#[A0A,(Af nts).trans t1,(Af (ne %[|1])).trans hm.ln,sM,List.mem_cons_self,hm.ml,b _ _ hm.r,b _ _ hm.mkm,λp hp=>?_,?_,?_]
 ·have eJ:=sub.subset hp;obtain⟨a1,a2,a3⟩:=B7 eJ;exact (hm.tt p eJ).but b (Af (ne %[a1|116])) (Af (ne %[a2|116])) (Af (ne %[a3|116]))
 ·show (Z.st::tl::Z.ln::Gc (Z.ts.filter λp=>decide (p.nm≠k))).Nodup;refine List.nodup_cons.mpr #[λz=>?_,List.nodup_cons.mpr #[λz=>?_,?_]]
  ·rcases List.mem_cons.mp z with e|z
   ·exact nts e.symm
   ·rcases List.mem_cons.mp z with e|z
    ·exact m1 (by rw[e];simp)
    ·exact m1 %[(List.mem_cons_of_mem _ (j8.subset z))|116]
  ·rcases List.mem_cons.mp z with e|z
   ·exact full Z.ln (by simp[Bx]) (by rw[<-e];exact t0)
   ·exact full tl %[(List.mem_cons_of_mem _ (List.mem_cons_of_mem _ (j8.subset z)))|116] t0
  ·exact List.nodup_cons.mpr #[λz=>m5 (j8.subset z),j8.nodup m6]
 ·exact (sub.map _).nodup h.na
end
def BT(S:HSt):List Addr:=S.x::S.U.ln::S.U.tk::S.ts.flatMap λp=>[p.a,p.u.gv,p.u.lf]
theorem A0C.aside(b:But M H H')(dB:∀c,H c≠none->H' c≠none)(e:∀c∈BT S,H' c=H c)(h:%[|21]):A0C M C cK H' S:=by
 have hx:=h.h;refine#[#[(e _ (by simp[BT])).trans hx.ob,(e _ (by simp[BT])).trans hx.ln,hx.mx,hx.ml,b _ _ hx.sp,b _ _ hx.mkm,hx.len,hx.m1,hx.m5,hx.wr,hx.ne,hx.l9],(e _ (by simp[BT])).trans h.tk,h.mt,λp hp=>#[?_,(h.tt p hp).2],h.nl,h.na,h.aa,λc hc=>dB c (h.fr c hc),h.tl];have hm:∀c∈[p.a,p.u.gv,p.u.lf],c∈BT S:=λc hc=>List.mem_cons_of_mem _ %[(List.mem_cons_of_mem _ (List.mem_flatMap.mpr #[p,hp,hc]))|116]
 exact (h.tt p hp).1.but b (e _ (hm _ %[|1])) (e _ (hm _ %[|1])) (e _ (hm _ %[|1]))
def Iy(p:Mt)(e r:Addr)(v:V)(t:Tr)(word:Str)(row:List Int):Mt:={p with sas:=p.sas++[.ref e],hls:=p.hls++[.ref r],w:={p.w with ents:=p.w.ents++[(v,t,word)],lefts:=p.w.lefts++[row]}}
def SS(p:Mt)(gs ls:List V):Mt:={p with sas:=gs,hls:=ls,w:=DB p.w}
def GF(p:Mt):Mt:={p with w:=GY p.w}
theorem HZ{H:Hp}{r:Addr}{row:List Int}(h:AK H r row):∀{xs:List V}{rs:%[|25]},A0F H xs rs->A0F H (xs++[.ref r]) (rs++[row])
 |_,_,.nil=>.cons #[r,rfl,h] .nil
 |_,_,.cons x q=>.cons x (HZ h q)
section
variable {M:%[|3]}{H:Hp}{p:Mt}
theorem A0T.backed(h:A0T M H p)(n1:p.d≠p.sa)(n2:p.d≠p.hl)(n3:p.sa≠p.hl)(he:A0K (A1 M H) gs p.w.ents.dropLast)(hl:A0F (A1 M H) ls p.w.lefts.dropLast):
  A0T M (upd (upd H p.hl (.lst ls)) p.sa (.lst gs)) (SS p gs ls):=by
 have eu:A1 M (upd (upd H p.hl (.lst ls)) p.sa (.lst gs))=A1 M H:=(BA h.ms).trans (BA h.mh);refine#[?_,A0A,?_,h.md,h.ms,h.mh,by rw[eu];exact h.sd,by rw[eu];exact h.sr,by rw[eu];exact h.tr,by rw[eu];exact he,by rw[eu];exact hl]
 ·exact (Af n1).trans ((Af n2).trans h.ob)
 ·exact (Af n3.symm).trans A0A
theorem A0T.ended(h:A0T M H p)(n1:p.d≠p.sa)(n2:p.d≠p.hl):A0T M (upd H p.d (.dK (dS (DL (GF p))))) (GF p):=by
 have eu:A1 M (upd H p.d (.dK (dS (DL (GF p)))))=A1 M H:=BA h.md;exact#[A0A,(Af n1.symm).trans h.sa,(Af n2.symm).trans h.hl,h.md,h.ms,h.mh,by rw[eu];exact h.sd,by rw[eu];exact h.sr,by rw[eu];exact h.tr,by rw[eu];exact h.en,by rw[eu];exact h.lr]
theorem W1:Cv (DL p) "over" (.bl true)=DL (GF p):=by with_unfolding_all rfl
end
theorem OK:∀{ts:List Mt}{p:Mt},(Gc ts).Nodup->p∈ts->p.d≠p.sa/\p.d≠p.hl/\p.sa≠p.hl
 |x::ts,p,nd,hp=>by
  obtain⟨n1,n2,_⟩:=List.nodup_append.mp (show ([x.d,x.sa,x.hl]++Gc ts).Nodup from nd);rcases List.mem_cons.mp hp with rfl|hp
  ·simp at n1;exact#[n1.1.1,n1.1.2,n1.2]
  ·exact OK n2 hp
theorem ModT.own(h:ModT M H Z)(hp:p∈Z.ts):p.d≠p.sa/\p.d≠p.hl/\p.sa≠p.hl:=by
 have nd:=h.nd;unfold Bx at nd;exact OK (List.nodup_cons.mp (List.nodup_cons.mp (List.nodup_cons.mp nd).2).2).2 hp
theorem CY(a k:Str):AE [a,k]=a++" "++k:=by
 refine GJ ?_;rw[ED,Co,Dt,AR,AR,Nb]
theorem ST(a k s z:Str):AE [a,k,s,z]=AE [AE [a,k],s,z]:=by
 refine GJ ?_;rw[ED,ED,Co,Co,Co,Dt,Co,Co,Dt,ED,Co,Dt];simp
inductive Dd where
 |lrn (i:Int) (k:%[|17])
 |beg (n kd rl:Str) (v:V) (t:Tr)
 |frk (k n:Str)
 |say (k:Str) (v:V) (t:Tr)
 |bck (k:Str)
 |edd (k:Str)
 |drp (k:Str)
def Dd.tup:Dd->List V
 |.lrn i k=>[.str "learn",.int i,CA k]
 |.beg n kd rl v _=>[.str "begin",.str n,.str kd,v,.str rl]
 |.frk k n=>[.str "fork",.str k,.str n]
 |.say k v _=>[.str "say",.str k,v]
 |.bck k=>[.str "back",.str k]
 |.edd k=>[.str "end",.str k]
 |.drp k=>[.str "drop",.str k]
def Dd.Ok(m:Nat)(G:Hp):Dd->Prop
 |.lrn _ _=>True
 |.beg n kd rl v t=>A0H n/\BK kd/\Cc rl/\t.At G v/\t.ok m/\t.size<=23
 |.frk k n=>A0H k/\A0H n
 |.say k v t=>A0H k/\t.At G v/\t.ok m/\t.size<=23
 |.bck k=>A0H k
 |.edd k=>A0H k
 |.drp k=>A0H k
inductive Told where
 |non
 |wd (z:Str)
 |pr (v:V) (z:Str)
def Told.At(H:Hp):Told->V->Prop
 |.non,x=>x=.non
 |.wd z,x=>x=.str z
 |.pr v z,x=>Cd λp q=>BV (x=.ref p) (v=.ref q) (H p=some (.tup [v,.str z]))
theorem NW{H:Hp}{t:Tr}{v:V}(h:t.At H v):∃q,v=.ref q:=by
 cases t with
 |lt k=>obtain⟨p,e,_⟩:=h;exact#[p,e]
 |nt t=>obtain⟨p,_,e,_⟩:=h;exact#[p,e]
 |bn j a b=>obtain⟨p,_,_,e,_⟩:=h;exact#[p,e]
structure PZ where
 word:Str
 told:Told
 marks:List (%[|17])
 ts:List (Str×Ta)
 line:Option Str
def BP(ts:List (Str×Ta))(k:Str):Option Ta:=(ts.find? λp=>decide (p.1=k)).map (·.2)
def EL(ts:List (Str×Ta))(k:Str)(w:Ta):List (Str×Ta):=ts.map λp=>if p.1=k then (p.1,w)else p
def AB(m:Nat)(room:List Int)(marks:List (%[|17]))(ts:List (Str×Ta))(D:Dd):PZ:=
 let no:Str->PZ:=λw=>#[w,.non,marks,ts,none]
 match D with
 |.lrn i k=>if ¬MK m i then no "NoLetter" else if room.filter (Dg (marks.set i.toNat k))=[]then no "NoWorld" else#["done",.non,marks.set i.toNat k,ts,some (AE ["learn",#[#v[97+i.toNat]],BR k])]
 |.beg n kd rl _ t=>if n∈ts.map (·.1)then no "NameTaken" else if []∈AS kd t room then no "NoStanding" else#["done",.non,marks,ts++[(n,BX m kd rl t room)],some (AE ["begin",n,rl,kd,Ch t])]
 |.frk k n=>match BP ts k with
  |none=>no "NoTalk"
  |some w=>if n∈ts.map (·.1)then no "NameTaken" else#["done",.non,marks,ts++[(n,w)],some (AE ["fork",k,n])]
 |.say k v t=>match BP ts k with
  |none=>no "NoTalk"
  |some w=>if w.ended=true then no "TalkOver" else#["done",.wd (Cs w (room.filter (Dg marks)) t),marks,EL ts k (GA w v t (Cs w (room.filter (Dg marks)) t)),some (AE ["say",k,Ch t,Cs w (room.filter (Dg marks)) t])]
 |.bck k=>match BP ts k with
  |none=>no "NoTalk"
  |some w=>if w.ended=true then no "TalkOver" else match w.ents.getLast? with
   |none=>no "NothingSaid"
   |some e=>#["done",.pr e.1 e.2.2,marks,EL ts k (DB w),some (AE ["back",k])]
 |.edd k=>match BP ts k with
  |none=>no "NoTalk"
  |some w=>if w.ended=true then no "TalkOver" else#["done",.non,marks,EL ts k (GY w),some (AE ["end",k])]
 |.drp k=>match BP ts k with
  |none=>no "NoTalk"
  |some _=>#["done",.non,marks,ts.filter λp=>decide (p.1≠k),some (AE ["drop",k])]
def BS(ts:List Mt):List (Str×Ta):=ts.map λp=>(p.nm,p.w)
def EH(ts:List Tw):List (Str×Ta):=ts.map λp=>(p.nm,p.w)
structure Yg(S:HSt)(Z:Mz):Prop where
 m:Z.m=S.m
 room:Z.room=S.room
 marks:Z.marks=S.marks
 ls:Z.ls=S.ls
 ts:BS Z.ts=EH S.ts
theorem CU:∀{ts:List (Str×Ta)}{k:Str}{w:Ta},BP ts k=some w->(k,w)∈ts
 |p::ts,k,w,h=>by
  by_cases c:p.1=k
  ·have:BP (p::ts) k=some p.2:=by simp[BP,List.find?_cons,c]
   rw[this]at h;have e:p=(k,w):=by rw[<-c,<-zAH h]
   rw[e];exact List.mem_cons_self
  ·have:BP (p::ts) k=BP ts k:=by simp[BP,List.find?_cons,c]
   rw[this]at h;exact List.mem_cons_of_mem _ (CU h)
theorem A1R:∀{ts:List (Str×Ta)}{k:Str},BP ts k=none↔k∉ts.map (·.1)
 |[],k=>by simp[BP]
 |p::ts,k=>by
  by_cases c:p.1=k
  ·simp[BP,List.find?_cons,c]
  ·have:BP (p::ts) k=BP ts k:=by simp[BP,List.find?_cons,c]
   rw[this,A1R (ts:=ts)];have c':¬k=p.1:=λe=>c e.symm
   simp[c']
theorem LE{ts:List (Str×Ta)}{k:Str}{w:Ta}(nd:(ts.map (·.1)).Nodup)(h:(k,w)∈ts):BP ts k=some w:=by
 cases e:BP ts k with
 |none=>exact absurd (zA9 (f:=(·.1)) h) (A1R.mp e)
 |some w'=>
  have h2:=CU e;have:=BW nd h h2 rfl;rw[Prod.mk.injEq]at this;rw[this.2]
structure be(Z:Mz):Prop where
 ml:Z.marks.length=Z.m
 m1:1<=Z.m
 m5:Z.m<=5
 wr:Wr Z.room
 ts:Z.ts.length<900
 ls:Z.ls.length<900
 w:∀p∈Z.ts,bU Z.room p.w/\p.w.ents.length<900/\p.w.lefts.length=p.w.ents.length+1/\p.w.room=Z.room/\(∀l∈p.w.lefts,l.Sublist Z.room)
structure MGo(M:%[|3])(H:Hp)(Z:Mz)(o:PZ)(M':%[|3])(H':Hp)(Z':Mz):Prop where
 z:ModT M' H' Z'
 st:Z'.st=Z.st
 m:Z'.m=Z.m
 room:Z'.room=Z.room
 marks:Z'.marks=o.marks
 ts:BS Z'.ts=o.ts
 ls:Z'.ls=Z.ls++o.line.toList.map V.str
 s:A0B (A1 M H) (A1 M' H')
 sub:∀b∈M,b∈M'
 fr:∀b∈M',H' b≠none
 out:∀c∈M,c∉Bx Z->H' c=H c
 nw:∀c∈Bx Z',c∈Bx Z\/H c=none
theorem FH(s:A0B H H')(h:H c≠none):H' c=H c:=by
 cases e:H c with
 |none=>exact absurd e h
 |some o=>exact s _ _ e
theorem MGo.no{M:%[|3]}{w:Str}(h:ModT M H Z)(fr:∀b∈M,H b≠none)(s:A0B H H'):MGo M H Z #[w,x,Z.marks,BS Z.ts,none] M H' Z:=
 #[h.keep s,rfl,rfl,rfl,rfl,rfl,by simp,Aj s,λ_ h=>h,λb hb z=>fr b hb (s.free z),λc hc _=>FH s (fr c hc),λ_ h=>.inl h]
theorem MGo.go(fr:∀b∈M,H b≠none)(b:But L H H1)(hL:∀c∈L,c∈Bx Z)(hLM:∀c∈L,c∈M)(hLf:∀c∈L,H1 c≠none)(hN:∀c∈N,H c=none)(hNf:∀c∈N,H1 c≠none)(s:A0B H1 H')(hz:ModT (N++M) H1 Z')(e1:Z'.st=Z.st)(e2:Z'.m=Z.m)(e3:Z'.room=Z.room)(e4:Z'.marks=o.marks)(e5:BS Z'.ts=o.ts)(e6:Z'.ls=Z.ls++o.line.toList.map V.str)(e7:∀c∈Bx Z',c∈Bx Z\/c∈N):MGo M H Z o (N++M) H' Z':=by
 have iR:∀c∈M,c∉L->H1 c=H c:=λc hc hn=>by
  cases e:H c with
  |none=>exact absurd e (fr c hc)
  |some o=>exact b.at e hn
 have full:∀c∈N++M,H1 c≠none:=λc hc=>by
  rcases List.mem_append.mp hc with h|h
  ·exact hNf c h
  ·by_cases e:c∈L
   ·exact hLf c e
   ·rw[iR c h e];exact fr c h
 refine#[hz.keep s,e1,e2,e3,e4,e5,e6,λp u e=>?_,λc h=>zAE _ h,λc hc z=>full c hc (s.free z),λc hc hn=>?_,λc hc=>(e7 c hc).imp id (hN c)]
 ·obtain⟨h1,h2⟩:=Bc e;refine AW (s _ _ (b.at h1 λz=>h2 (hLM p z))) λz=>?_
  rcases List.mem_append.mp z with q|q
  ·rw[hN p q]at h1;cases h1
  ·exact h2 q
 ·have nL:c∉L:=λz=>hn (hL c z)
  rw[FH s (full c (zAE _ hc))];exact iR c hc nL
theorem Ll(h:c∈Bx {Z with ts:=Z.ts++[q],ls:=l}):c∈Bx Z\/c∈[q.d,q.sa,q.hl]:=by
 have e:Bx {Z with ts:=Z.ts++[q],ls:=l}=Bx Z++[q.d,q.sa,q.hl]:=by
  unfold Bx Gc;rw[List.flatMap_append];rfl
 rw[e]at h;exact List.mem_append.mp h
theorem E6(ts:List Mt):(BS ts).map (·.1)=Kx ts:=by
 unfold BS Kx;rw[zA0];rfl
theorem LQ(ts:List Mt)(p:Mt):BS (ts++[p])=BS ts++[(p.nm,p.w)]:=by
 unfold BS;rw[List.map_append];rfl
theorem B1(nd:(Kx ts).Nodup)(hp:p∈ts):BP (BS ts) p.nm=some p.w:=
 LE (by rw[E6];exact nd) (List.mem_map.mpr #[p,hp,rfl])
theorem DV(h:k∉Kx ts):BP (BS ts) k=none:=A1R.mpr (by rw[E6];exact h)
theorem TF:∀c∈[Z.tl,Z.ln],c∈Bx Z:=λc hc=>by
 exists 10;rcases hc with rfl|rfl<;>simp[Bx]
theorem Xu(h:ModT M H Z):∀c∈[Z.tl,Z.ln],c∈M:=λc hc=>by
 exists 609
 ·exact h.mt
 ·exact h.ml
theorem Me(h:ModT M H Z):∀c∈[Z.tl,Z.ln],H c≠none:=λc hc=>by
 exists 609
 ·exact h.full _ (by simp[Bx])
 ·exact h.full _ (by simp[Bx])
theorem Ca{H:Hp}{a b c:Addr}(h1:H a=none)(h2:H b=none)(h3:H c=none):∀x∈[a,b,c],H x=none:=λx hx=>by
 simp only[zAD,zAB,or_false]at hx;rcases hx with rfl|rfl|rfl
 ·exact h1
 ·exact h2
 ·exact h3
theorem Hw(h:A0T M H p):∀x∈[p.d,p.sa,p.hl],H x≠none:=λx hx=>by
 simp only[zAD,zAB,or_false]at hx;exact h.inM x hx
theorem Kf(en:p'.nm=k):BS (Ef ts k p')=EL (BS ts) k p'.w:=by
 unfold BS Ef EL;rw[zA0,zA0];refine zB4 λq _=>?_
 show ((if q.nm=k then p' else q).nm,(if q.nm=k then p' else q).w)=(if q.nm=k then (q.nm,p'.w)else (q.nm,q.w));by_cases c:q.nm=k
 ·rw[if_pos c,if_pos c,en,c]
 ·rw[if_neg c,if_neg c]
theorem Kc(h:ModT M H Z)(hp:p∈Z.ts)(e1:p'.d=p.d)(e2:p'.sa=p.sa)(e3:p'.hl=p.hl):Bx {Z with ts:=Ef Z.ts p.nm p',ls:=l}=Bx Z:=by
 unfold Bx;show Z.st::Z.tl::Z.ln::Gc (Ef Z.ts p.nm p')=_;rw[M8 λq hq e=>by rw[BW h.na hq hp e];exact#[e1,e2,e3]]
theorem MGo.own(hZ:ModT M H Z)(hp:p∈Z.ts)(fr:∀b∈M,H b≠none)(b:But [p.d,p.sa,p.hl,Z.ln] H H1)(s:A0B H1 H')(hz:ModT M H1 Z')(em:Bx Z'=Bx Z)(e1:Z'.st=Z.st)(e2:Z'.m=Z.m)(e3:Z'.room=Z.room)(e4:Z'.marks=o.marks)(e5:BS Z'.ts=o.ts)(e6:Z'.ls=Z.ls++o.line.toList.map V.str):MGo M H Z o M H' Z':=by
 have mp:=hZ.tt p hp
 have MK:∀c∈[p.d,p.sa,p.hl,Z.ln],c∈Bx Z:=λc hc=>by
  obtain⟨a1,a2,a3⟩:=B7 hp;exists 10;rcases hc with rfl|rfl|rfl|rfl
  ·exact List.mem_cons_of_mem _ %[(List.mem_cons_of_mem _ a1)|116]
  ·exact List.mem_cons_of_mem _ %[(List.mem_cons_of_mem _ a2)|116]
  ·exact List.mem_cons_of_mem _ %[(List.mem_cons_of_mem _ a3)|116]
  ·simp[Bx]
 refine MGo.go (N:=[]) fr b MK (λc hc=>?_) (λc hc=>hz.full c (by rw[em];exact MK c hc)) (λ_ z=>nomatch z) (λ_ z=>nomatch z) s hz e1 e2 e3 e4 e5 e6 (λc h=>.inl (by rw[em]at h;exact h));exists 10;rcases hc with rfl|rfl|rfl|rfl
 ·exact mp.md
 ·exact mp.ms
 ·exact mp.mh
 ·exact hZ.ml
theorem A0T.said2(h:A0T M H p)(n1:p.d≠p.sa)(n2:p.d≠p.hl)(b:But [p.sa,p.hl] H H')(h1:H' p.sa=some (.lst (p.sas++[.ref e])))(h2:H' p.hl=some (.lst (p.hls++[.ref r])))(he:A1 M H' e=some (.tup [v,.str word]))(hv:t.At (A1 M H') v)(hr:AK (A1 M H') r row):A0T M H' (Iy p e r v t word row):=by
 have k:But M H H':=But.wide (λm hm=>by
  simp only[zAD,zAB,or_false]at hm
  rcases hm with rfl|rfl
  ·exact h.ms
  ·exact h.mh) b
 refine#[b.at h.ob ?_,h1,h2,h.md,h.ms,h.mh,k _ _ h.sd,h.sr.keep k,h.tr.keep (TS.same k),A0K.snoc #[e,rfl,he,hv] (h.en.keep k),HZ hr (h.lr.keep k)];simp only[zAD,zAB,or_false,not_or];exact#[n1,n2]
theorem MS:BS (ts.filter λp=>decide (p.nm≠k))=(BS ts).filter λp=>decide (p.1≠k):=by
 unfold BS;rw[List.filter_map];rfl
theorem PQ(hO:be Z)(hp:p∈Z.ts):Cs p.w (Z.room.filter (Dg Z.marks)) t=DP Z p.w t:=by
 obtain⟨h1,_,_,h4,h5⟩:=hO.w p hp;have hs:(Z.room.filter (Dg Z.marks)).Sublist Z.room:=zAM;unfold Cs DP;rw[h4,FL hs]
 have hg:p.w.going.Sublist Z.room:=by
  unfold Ta.going;split
  ·exact h5 _ (Do h1.ln)
  ·exact h5 _ (Ln h1.ln)
 rw[Zi hg hs]
theorem VU(hr:p.w.room=room)(hs:(p.w.lefts.getLastD []).Sublist room):(Iy p e r v t z (Eg z (p.w.lefts.getLastD []) t)).w=GA p.w v t z:=by
 unfold Iy GA;have:C5 z p.w.held (%[|15] p.w.room)=Eg z (p.w.lefts.getLastD []) t:=by rw[hr];exact OH hs
 rw[this]
theorem J8{α:Type}{f:α->V}{K:PySem.W.Frag}{row:List α}{p:α->Bool}(hr:SqL K H a (row.map f))(dq:H acc=none)(dj:row.length<=900)(ht:∀k,k∈row->∀H2,A0B H H2->∀R:Bool->Hp->Prop,(∀H3,A0B H2 H3->R (p k) H3)->tc (some (f k)::rest) H2 R)(hd:∀v0 H2,A0B H H2->H2 acc=some (.lst ((row.filter p).map f))->D.nx (v0::rest) H2)(v:Option V):
  Ek (Va K a) (Cr 0) (Du tc (Dm acc (WA 0))) D (v::rest) (upd H acc %[|9]):=by
 refine A0 (K:=K) (a:=a) (xs:=row.map f) %[(((row.take i).filter p).map f)|119] #[v,rfl,Ab dq _,A0A] ?_ ?_ ?_
 ·rintro i σ H2 _ ⟨v0,rfl,s2,_⟩;exact s2.seq hr
 ·rintro i x σ H2 hx ⟨v0,rfl,s2,dL⟩;rw[List.getElem?_map]at hx;obtain⟨k,hk,rfl⟩:=Option.map_eq_some_iff.mp hx;have et:row.take (i+1)=row.take i++[k]:=by rw[zAQ,hk];rfl
  refine ht k (zAJ hk) H2 s2 _ λH3 s3=>?_
  have gE:=s3 _ _ dL
  cases e:p k with
  |false=>
   refine Aw #[_,rfl,s2.trans s3,?_];rw[et,zB8,zCX (by rw[e];simp),zCK,zA6];exact gE
  |true=>
   refine AD #[_,gE,An ?_,?_]
   ·rw[List.length_map];refine zAC (zAV _ _) ?_;rw[zAW];omega
   refine#[_,rfl,Ao (s2.trans s3) dq _,?_];rw[A0A,et,zB8,zCY e,zCK,List.map_append];rfl
 ·rintro σ H2 ⟨v0,rfl,s2,dL⟩;rw[List.length_map,zAP]at dL;exact hd v0 H2 s2 dL
theorem Ur{tl:Addr}:Cv (Ip Z) "talks" (.ref tl)=Ip {Z with tl:=tl,ts:=ts}:=by with_unfolding_all rfl
theorem Qk(sides:%[|25])(going seen:List Int)(t:Tr):Gb sides going seen t="grant"\/Gb sides going seen t="deny"\/Gb sides going seen t="doubt":=by
 unfold Gb;by_cases a:%[|29] going=[]
 ·rw[if_pos a];exact .inl rfl
 rw[if_neg a];by_cases b:%[|15] going=[]
 ·rw[if_pos b];exact .inr (.inl rfl)
 rw[if_neg b];by_cases c:Ba seen t="grant"/\AO sides (%[|15] going)=true
 ·rw[if_pos c];exact .inl rfl
 rw[if_neg c];by_cases d:Ba seen t="deny"/\AO sides (%[|29] going)=true
 ·rw[if_pos d];exact .inr (.inl rfl)
 rw[if_neg d];exact .inr (.inr rfl)
theorem Qx:DP Z W t="grant"\/DP Z W t="deny"\/DP Z W t="doubt":=by
 unfold DP;split
 ·exact On _ _
 ·exact Qk _ _ _ _
inductive Gw(vs:List V)(H:Hp)(Q:VK)(E:XK):Prop|mk(M:%[|3])(Z:Mz)(D:Dd)(da:Addr)(_:vs=[.ref Z.st,.ref da])(_:H da=some (.tup D.tup))(_:ModT M H Z)(_:(∀b∈M,H b≠none))(_:be Z)(_:D.Ok Z.m (A1 M H))(_:∀(r:Addr)(x:V)(M':%[|3])(H':Hp)(Z':Mz),H' r=some (.tup [.str (%[|37] (BS Z.ts) D).word,x])->(%[|37] (BS Z.ts) D).told.At H' x->MGo M H Z (%[|37] (BS Z.ts) D) M' H' Z'->Q (.ref r) H')
section
variable {f:Addr}
def A0W:=Au Hs ["_law_state_here","_law_deed_here","_law_talk","_law_told","_law_line","_law_held"] 2
theorem Ks(de:%[|5]):%[|8] "_law_modelled" BC 27 Gw:=by
 refine de.h26.ok A0W ?_;rintro bz f dm A outer s H _ Q E hr ⟨M,Z,D,da,rfl,hd,hZ,hM,hO,hD,q⟩;have fu:A0M 2 _:=hr.mono %[|2]
 refine#[_,Aa (Aq (%[|60])
   (AX (Bj (AN (Ax (MJ de) fu Al (Ag (pv 0) (AN %[|27] %[|27]))) Cm)))
   Ah)
  (Aa (Aq (%[|60])
   (AX (Bj (AN (Ax (Qi de) hr Al (Ag (pv 0) (Ag %[|27] (Ag %[|27] (AN %[|27] %[|27]))))) Cm)))
   Ah)
  (Aa (Aq (%[|60])
   (AX (Bj (AN (Ax (NA de) fu Al (Ag (pv 0) (AN %[|27] %[|27]))) Cm)))
   Ah)
  (Aa (AC 2 A0W.nd (Ax (Fy de) hr Al (AN (pv 0) %[|27])))
  (Aa (Aq (FJ (FV (pv 2)))
   (AX (Bj (AN Ae Cm)))
   Ah)
  (Aa (Aq (EW (B6 %[|56] (λ_=>rfl)) (DC (AM ER %[|27] Ae))).pt
   (AX (Bj (AN Ae Cm)))
   Ah)
  (Aa (Aq (EW (%[|60]) (DC (AM (HN hr.units0) %[|56] (Av Bi)))).pt
   (AX (Bj (AN Ae Cm)))
   Ah)
  (Aa (AC 3 A0W.nd Cm)
  (Aa (AC 4 A0W.nd (Ap A6 (Ap A6 %[|27] Ae) %[|27]))
  (Aa (Aq (%[|60])
   (Aa (AC 3 A0W.nd (Ax (Ja de) hr Al (Ag (pv 0) (AN (pv 2) %[|27]))))
   (Aa (As (A7 %[|56] (AI (Bj (AN %[|27] (pv 3))))))
   (Aa (AC 5 A0W.nd (Am Ay %[|56] (HJ EY Ad)))
   (Aa (Aq (AM ER (pv 3) Ae)
    (Ak (D6 (i:=5) A0W.nd rfl (Or.inl rfl) (N:=["_law_world","_law_deed_here","_law_told"]) (js:=[none,some 1,some 3]) (cl:=[("_law_told",s.heap.objs.size+2),("_law_deed_here",s.heap.objs.size+1)]) #[rfl,rfl,rfl,(by intro p hp;simp at hp;rcases hp with rfl|rfl<;>rfl),rfl,rfl,rfl] (AT (pv 5)) (λc1=>(Bo 0 (show (["_law_world","_law_deed_here","_law_told"]:List Str).Nodup by decide +kernel))) (λc1=>(CS (AM AH (Ax (Ci de 23) hr Al (AN %[|27] (pv 0))) (BF AH (pv 2) Ae (Cl _))))) (λc1=>(pv 0))))
    Ah)
   (Aa (As (A7 %[|56] (AI (pv 5))))
   (Ak (AC 4 A0W.nd (Eh zB6 zCB zCC FE Ae (AI (Av (Ag (pv 4) (AN (Ax (GK de 23) hr Al (AI %[|27])) (pv 3)))))))))))))
   Ah)
  (Aa (Aq (%[|60])
   (Aa (As (Cn %[|56]))
   (Ak (AC 3 A0W.nd (Cn %[|56]))))
   Ah)
  (Aa (Aq (%[|60])
   (Ak (B8 BN (B9 (pv 2) Ae B4)))
   Ah)
  (Aa (Aq (%[|60])
   (Ak (B8 (A8 (N:=["_law_one","_law_deed_here"]) (js:=[none,some 1]) (cl:=[("_law_deed_here",s.heap.objs.size+1)]) #[rfl,rfl,rfl,(by intro p hp;simp at hp;rcases hp with rfl<;>rfl),rfl,rfl,rfl] (AT %[|54]) (λc1=>(Bo 0 (show (["_law_one","_law_deed_here"]:List Str).Nodup by decide +kernel))) (λc1=>(CS (AM ER %[|54] %[|27]))) (λc1=>(pv 0))) (B9 (pv 0) Ae B4)))
   Ah)
  (Aa (As (A7 %[|54] (AI (pv 4))))
  (AX (Bj (AN Ae (pv 3))))))))))))))))),?_]
 cases D with
 |lrn i k=>
  exists 9;refine#[SqT.of hd,Ac (j:=1) rfl,SqT.of hd,Ac (j:=2) rfl,M,Z,i,k,rfl,hZ,hM,hO.ml,hO.m5,hO.wr.len,hO.ls,λc=>?_,λj ej hj ce H1 s1=>?_,λj ej hj ce mk H1 b1 d9 ft=>?_]
  ·refine#[C4,λr hr=>?_];have e:%[|37] (BS Z.ts) (.lrn i k)=#["NoLetter",.non,Z.marks,BS Z.ts,none]:=if_pos c;exists 607
  ·refine#[C4,λr hr=>?_];have fG:¬¬MK Z.m i:=λz=>z #[by omega,by omega]
   have jf:i.toNat=j:=by omega
   have e:%[|37] (BS Z.ts) (.lrn i k)=#["NoWorld",.non,Z.marks,BS Z.ts,none]:=(if_neg fG).trans (if_pos (by rw[jf];exact ce));rw[e]at q;exact q r .non M _ Z A0A rfl (MGo.no hZ hM (s1.trans (Ab hr _)))
  ·refine#[C4,λr hr=>?_];have fG:¬¬MK Z.m i:=λz=>z #[by omega,by omega]
   have jf:i.toNat=j:=by omega
   have e:%[|37] (BS Z.ts) (.lrn i k)=#["done",.non,Z.marks.set i.toNat k,BS Z.ts,some (AE ["learn",#[#v[97+i.toNat]],BR k])]:=(if_neg fG).trans (if_neg (by rw[jf];exact ce));rw[e]at q;refine q r .non M _ _ A0A rfl (MGo.go (N:=[]) (L:=[Z.st,Z.ln]) hM b1 ?_ ?_ ?_ (λ_ z=>nomatch z) (λ_ z=>nomatch z) (Ab hr _) ft rfl rfl rfl (by rw[jf]) rfl (by rw[jf];rfl) (λ_ h=>.inl h))
   ·intro c hc;exists 10;rcases hc with rfl|rfl<;>simp[Bx]
   ·intro c hc;exists 609
    ·exact hZ.ms
    ·exact hZ.ml
   ·intro c hc;exists 609
    ·have:=ft.ob;intro z;rw[z]at this;cases this
    ·have:=ft.ln;intro z;rw[z]at this;cases this
 |beg n kd rl v t=>
  obtain⟨hg,hk,f8,dN,hok,hsz⟩:=hD;exists 13;exists 9;refine#[SqT.of hd,Ac (j:=1) rfl,SqT.of hd,Ac (j:=2) rfl,SqT.of hd,Ac (j:=3) rfl,SqT.of hd,Ac (j:=4) rfl,M,Z,n,kd,rl,v,t,rfl,hZ,hM,hO.wr,hO.ts,hO.ls,zAC hg.2.1 %[|2],hk,f8,dN,Tr.ok.mono hO.m5 hok,hsz,λc H1 s1=>?_,λc c2 H1 s1=>?_,λc c2 d sd sa hl sds hls H1 b1 d0 a0 l0 ft=>?_]
  ·refine#[C4,λr hr=>?_];have e:%[|37] (BS Z.ts) (.beg n kd rl v t)=#["NameTaken",.non,Z.marks,BS Z.ts,none]:=if_pos (by rw[E6];exact c);rw[e]at q;exact q r .non M _ Z A0A rfl (MGo.no hZ hM (s1.trans (Ab hr _)))
  ·refine#[C4,λr hr=>?_];have e:%[|37] (BS Z.ts) (.beg n kd rl v t)=#["NoStanding",.non,Z.marks,BS Z.ts,none]:=(if_neg (by rw[E6];exact c)).trans (if_pos c2);rw[e]at q;exact q r .non M _ Z A0A rfl (MGo.no hZ hM (s1.trans (Ab hr _)))
  ·refine#[C4,λr hr=>?_];have e:%[|37] (BS Z.ts) (.beg n kd rl v t)=#["done",.non,Z.marks,BS Z.ts++[(n,BX Z.m kd rl t Z.room)],some (AE ["begin",n,rl,kd,Ch t])]:=(if_neg (by rw[E6];exact c)).trans (if_neg c2);rw[e]at q;exists 29
 |frk k n=>
  obtain⟨hgk,hgn⟩:=hD;exists 600;exists 9;refine#[SqT.of hd,Ac (j:=1) rfl,SqT.of hd,Ac (j:=2) rfl,M,Z,k,n,rfl,hZ,hO.ts,hO.ls,zAC hgk.2.1 %[|2],zAC hgn.2.1 %[|2],λc=>?_,λc c2=>?_,λp hp ep c d sa hl H1 b1 d0 a0 l0 ft=>?_]
  ·refine#[C4,λr hr=>?_];have e:%[|37] (BS Z.ts) (.frk k n)=#["NoTalk",.non,Z.marks,BS Z.ts,none]:=by simp only[AB,DV c]
   exists 607
  ·refine#[C4,λr hr=>?_];obtain⟨p,hp,rfl⟩:=List.mem_map.mp c
   have e:%[|37] (BS Z.ts) (.frk p.nm n)=#["NameTaken",.non,Z.marks,BS Z.ts,none]:=by
    simp only[AB,B1 hZ.na hp];exact if_pos (by rw[E6];exact c2)
   exists 607
  ·refine#[C4,λr hr=>?_];subst ep
   have e:%[|37] (BS Z.ts) (.frk p.nm n)=#["done",.non,Z.marks,BS Z.ts++[(n,p.w)],some (AE ["fork",p.nm,n])]:=by
    simp only[AB,B1 hZ.na hp];exact if_neg (by rw[E6];exact c)
   rw[e]at q;exists 29
 |say k v t=>
  exists 600;exists 13;exists 24
  ·refine AD #[C4,λr hr=>?_];have e:%[|37] (BS Z.ts) (.say k v t)=#["NoTalk",.non,Z.marks,BS Z.ts,none]:=by simp only[AB,DV c]
   exists 607
  subst ep;refine Aw ?_;have mp:=hZ.tt p hp;refine#[mp.ob,Ew,p.w.ended,rfl,?_]
  cases he:p.w.ended with
  |true=>
   refine AD #[SqT.of hd,Ac (j:=0) rfl,rfl,AD #[C4,λr hr=>?_]]
   have e:%[|37] (BS Z.ts) (.say p.nm v t)=#["TalkOver",.non,Z.marks,BS Z.ts,none]:=by
    simp only[AB,B1 hZ.na hp];exact if_pos he
   exists 607
  |false=>
   refine Aw (Aw ?_);obtain⟨hg,dN,hok,hsz⟩:=hD;refine#[SqT.of hd,Ac (j:=0) rfl,rfl,Aw (Aw ?_)];refine#[SqT.of hd,Ac (j:=0) rfl,%[|2],SqT.of hd,Ac (j:=1) rfl,?_,?_]
   ·exact zAC (show (("say":Str)++(" ":Str)).length+p.nm.length<=1000 by have:(("say":Str)++(" ":Str)).length=4:=rfl;have:=hg.2.1;omega) %[|2]
   exists 9;have w5:=hO.w p hp;have hatH:t.At H v:=dN.keep (TS.same A0D);refine#[SqT.of hd,Ac (j:=2) rfl,M,Z,p,v,t,rfl,hZ,hp,w5.1,hO.wr.len,by rw[hO.ml];exact hO.m5,hatH,Tr.ok.mono hO.m5 hok,hsz,λH1 s1=>?_];have ez:Cs p.w (Z.room.filter (Dg Z.marks)) t=DP Z p.w t:=PQ hO hp;have z3:DP Z p.w t="grant"\/DP Z p.w t="deny"\/DP Z p.w t="doubt":=Qx
   have est:%[|37] (BS Z.ts) (.say p.nm v t)=#["done",.wd (DP Z p.w t),Z.marks,EL (BS Z.ts) p.nm (GA p.w v t (DP Z p.w t)),some (AE ["say",p.nm,Ch t,DP Z p.w t])]:=by
    simp only[AB,B1 hZ.na hp];rw[if_neg (by rw[he];decide),ez]
   rw[est]at q;clear est ez;generalize DP Z p.w t=z at*;have ft:=hZ.keep s1;have eX:=mp.keep s1;have eK:=s1 _ _ hd;obtain⟨o1,o2,o3⟩:=hZ.own hp;have la:p.sas.length<=1000:=by rw[A0K.len mp.en];have:=w5.2.1;omega
   have lh:p.hls.length<=1000:=by rw[mp.lr.len,w5.2.2.1];have:=w5.2.1;omega
   refine#[eX.ob,FB,.inl #[rfl,_,SqL.of eX.sa],SqT.of eK,Ac (j:=2) rfl,C4,λe he0=>?_];have s2:=Ab he0 (.tup [v,.str z]);have eM:e∉M:=λc=>hM e c (s1.free he0)
   have e2:upd H1 e (.tup [v,.str z]) e=some (.tup [v,.str z]):=A0A;generalize upd H1 e _=H2 at*;have eE:=s1.trans s2;have kH:=mp.keep eE;refine#[kH.sa,An la,?_];have nsa:∀{c o},H2 c=some o->c≠p.sa->upd H2 p.sa (.lst (p.sas++[.ref e])) c=some o:=λh n=>(Af n).trans h
   have ob3:=nsa kH.ob o1;have hl3:=nsa kH.hl o3.symm;have hd3:=nsa (eE _ _ hd) (AV (eE _ _ hd) kH.sa %[|11]);have e3:=nsa e2 (AV e2 kH.sa %[|11]);have sa3:upd H2 p.sa (.lst (p.sas++[.ref e])) p.sa=some (.lst (p.sas++[.ref e])):=A0A;have b3:But [p.sa,p.hl] H (upd H2 p.sa (.lst (p.sas++[.ref e]))):=A0B.trans (Aj eE) (But.upd %[|1]);have k3:A0B (A1 M H) (A1 M (upd H2 p.sa (.lst (p.sas++[.ref e])))):=by rw[BA mp.ms];exact Aj eE
   have f3:∀c∈M,upd H2 p.sa (.lst (p.sas++[.ref e])) c≠none:=λc hc=>by
    by_cases ec:c=p.sa
    ·rw[ec,A0A];intro z;cases z
    ·rw[Af ec];exactλz=>hM c hc (eE.free z)
   generalize upd H2 p.sa _=H3 at*;obtain⟨gl,fZ,iP⟩:=Dl mp.lr w5.1.ln;have gl3:=k3 _ _ iP;refine#[ob3,Dr,_,rfl,SqL.of hl3,fZ,?_];have at3:t.At (A1 M H3) v:=dN.keep (TS.same k3);refine Da (λσ H'=>∃r,BV (σ=[some (.ref Z.st),some (.ref da),some (.ref p.d),some (.str z),some (.str %[|75]),some (.ref r)]) (A0B H3 H') (AK (A1 M H') r (Eg z (p.w.lefts.getLastD []) t))) ?_ (λnext=>?_)
   rotate_left
   ·refine#[rfl,?_];by_cases c:z="doubt"
    ·subst c;exact Aw (next _ _ #[gl,rfl,A0B.refl _,gl3])
    have el:Eg z (p.w.lefts.getLastD []) t=(p.w.lefts.getLastD []).filter λk=>tv t k == decide (z="grant"):=by
     rcases z3 with rfl|rfl|rfl
     ·rfl
     ·rfl
     ·exact absurd rfl c
    have c':(!decide (V.str z=V.str "doubt"))=true:=by rw[decide_eq_false (λh=>c (by injection h))];rfl
    rw[c'];refine AD #[#[_,SqL.of (A0D _ _ gl3)],λcc acc dq=>BO (p:=λk=>tv t k == decide (z="grant")) (rest:=[some (.ref da),some (.str z)]) (SqL.of (A0D _ _ gl3)) dq (w5.1.l9 _ (Do w5.1.ln)) (λk hk H4 s4 R hR=>?_) (λv0 H4 s4 hac=>?_) none]
    ·refine#[SqT.of (s4 _ _ hd3),Ac (j:=2) rfl,v,t,k,rfl,(at3.keep (TS.same A0D)).keep (TS.same s4),Tr.ok.mono hO.m5 hok,hsz,λH5 s5=>#[rfl,rfl,?_]];have:=hR H5 s5;rw[show (tv t k == decide (z="grant"))=decide (V.bl (tv t k)=V.bl (decide (V.str z=V.str "grant"))) by by_cases cz:z="grant"<;>cases tv t k<;>simp[cz]]at this;exact this
    refine Dz rfl ?_;refine next _ _ #[acc,rfl,s4,?_];rw[el];exact AW hac λh=>f3 acc h dq
   rintro σ H4 ⟨r,rfl,s4,f7⟩;have jq:=s4 _ _ hl3;refine#[s4 _ _ ob3,Dr,.inl #[rfl,_,SqL.of jq],jq,An lh,?_];have b5:But [p.sa,p.hl] H (upd H4 p.hl (.lst (p.hls++[.ref r]))):=b3.trans (A0B.trans (Aj s4) (But.upd %[|1]));have k5:A0B (A1 M H4) (A1 M (upd H4 p.hl (.lst (p.hls++[.ref r])))):=by rw[BA mp.mh];exact A0B.refl _
   have sa5:upd H4 p.hl (.lst (p.hls++[.ref r])) p.sa=some (.lst (p.sas++[.ref e])):=(Af o3).trans (s4 _ _ sa3);have hl5:upd H4 p.hl (.lst (p.hls++[.ref r])) p.hl=some (.lst (p.hls++[.ref r])):=A0A;have at5:t.At (A1 M (upd H4 p.hl (.lst (p.hls++[.ref r])))) v:=(at3.keep (TS.same (Aj s4))).keep (TS.same k5);have hd5:upd H4 p.hl (.lst (p.hls++[.ref r])) da=some (.tup (Dd.say p.nm v t).tup):=(Af (AV (s4 _ _ hd3) jq %[|11])).trans (s4 _ _ hd3);have mp5:=mp.said2 o1 o2 b5 sa5 hl5 (k5 _ _ (AW (s4 _ _ e3) eM)) at5 (k5 _ _ f7);generalize upd H4 p.hl _=H5 at*;have hZ5:=hZ.alter (p':=Iy p e r v t z (Eg z (p.w.lefts.getLastD []) t)) hp (But.wide (λc hc=>by simp only[zAD,zAB,or_false]at hc ⊢;exact .inr hc) b5) rfl rfl rfl rfl mp5;refine#[rfl,SqT.of hd5,Ac (j:=2) rfl,v,t,rfl,at5.keep (TS.same A0D),Tr.ok.mono hO.m5 hok,hsz,hsz,λsz H6 ix s6=>?_];have ezz:=FP ix;subst ezz;refine#[ML,λl fU=>?_];have s7:=Ab fU (.lst (([%[|75],Ch t,z]).map V.str));have l7:upd H6 l (.lst (([%[|75],Ch t,z]).map V.str)) l=some (.lst (([%[|75],Ch t,z]).map V.str)):=A0A;have el:[V.str %[|75],.str (Ch t),.str z]=([%[|75],Ch t,z]).map V.str:=rfl;rw[el];generalize upd H6 l _=H7 at*;have kJ:=s6.trans s7;refine#[_,l,[%[|75],Ch t,z],rfl,rfl,SqL.of l7,?_,?_]
   ·have lz:z.length<=5:=by rcases z3 with rfl|rfl|rfl<;>decide
    have l1:(Str.ofString " ").length=1:=rfl;have l0:%[|75].length=4+p.nm.length:=(Array.size_append (xs:=(("say":Str)++(" ":Str)).cps) (ys:=p.nm.cps)).trans rfl;have:=Fk t;have:=hg.2.1;show %[|75].length+((Ch t).length+(z.length+0))+3*(Str.ofString " ").length<=16777216;rw[l1,l0];omega
   rw[I8];have ju:=hZ5.keep kJ;have hd7:=kJ _ _ hd5;refine#[SqT.of hd7,Ac (j:=0) rfl,rfl,Aw ?_];refine#[SqT.of hd7,Ac (j:=0) rfl,rfl,Aw ?_];refine#[SqT.of hd7,Ac (j:=0) rfl,rfl,Aw ?_];refine#[ju.ob,CH,.inl #[rfl,_,SqL.of ju.ln],ju.ln,An (by show Z.ls.length<=1000;have:=hO.ls;omega),?_];have ll:AE [%[|75],Ch t,z]=AE ["say",p.nm,Ch t,z]:=by rw[ST,CY]
   rw[ll];have hZ8:=ju.wrote (.str (AE ["say",p.nm,Ch t,z]));have b8:But [p.d,p.sa,p.hl,Z.ln] H (upd H7 Z.ln (.lst (Z.ls++[.str (AE ["say",p.nm,Ch t,z])]))):=A0B.trans (But.wide (λc hc=>by simp only[zAD,zAB,or_false]at hc ⊢;rcases hc with h|h<;>simp[h]) b5) (A0B.trans (Aj kJ) (But.upd (a:=Z.ln) %[|1]));refine#[C4,λr2 fu=>?_];refine q r2 (.str z) M _ _ A0A rfl (MGo.own hZ hp hM b8 (Ab fu _) hZ8 (Kc hZ hp rfl rfl rfl) rfl rfl rfl rfl ?_ rfl);show BS (Ef Z.ts p.nm (Iy p e r v t z (Eg z (p.w.lefts.getLastD []) t)))=_;rw[Kf (k:=p.nm) (p':=Iy p e r v t z (Eg z (p.w.lefts.getLastD []) t)) rfl,VU w5.2.2.2.1 (w5.2.2.2.2 _ (Do w5.1.ln))]
 |bck k=>
  exists 600;exists 13;exists 24
  ·refine AD #[C4,λr hr=>?_];have e:%[|37] (BS Z.ts) (.bck k)=#["NoTalk",.non,Z.marks,BS Z.ts,none]:=by simp only[AB,DV c]
   exists 607
  subst ep;refine Aw ?_;have mp:=hZ.tt p hp;refine#[mp.ob,Ew,p.w.ended,rfl,?_]
  cases he:p.w.ended with
  |true=>
   refine AD #[SqT.of hd,Ac (j:=0) rfl,rfl,AD #[C4,λr hr=>?_]]
   have e:%[|37] (BS Z.ts) (.bck p.nm)=#["TalkOver",.non,Z.marks,BS Z.ts,none]:=by
    simp only[AB,B1 hZ.na hp];exact if_pos he
   exists 607
  |false=>
   refine Aw (Aw ?_);exists 9;refine#[mp.ob,FB,GD,λe1 he1=>?_];have s1:=Ab he1 %[|9];refine#[p.sa,e1,_,rfl,rfl,SqL.of (s1 _ _ mp.sa),SqL.of A0A,?_];generalize upd H e1 _=H1 at*;have ft:=hZ.keep s1;have eX:=mp.keep s1;have eK:=s1 _ _ hd;have hg:A0H p.nm:=hD;by_cases hE:p.w.ents=[]
   ·have ge:p.sas=[]:=Lb (hE ▸ mp.en);rw[ge];refine AD #[C4,λr hr=>?_]
    have e:%[|37] (BS Z.ts) (.bck p.nm)=#["NothingSaid",.non,Z.marks,BS Z.ts,none]:=by
     simp only[AB,B1 hZ.na hp];rw[if_neg (by rw[he];decide),hE];rfl
    rw[e]at q;exact q r .non M _ Z A0A rfl (MGo.no hZ hM (s1.trans (Ab hr _)))
   obtain⟨gs,e0,e,eg,hE2,gH,hp0,hpa⟩:=A0K.last eX.en hE;obtain⟨ls,l,el,hL2,hl⟩:=Eu eX.lr (hO.w p hp).1.ln;have nemp:p.sas.isEmpty=false:=by rw[eg];simp
   rw[nemp];refine Aw ?_;refine#[SqT.of eK,Ac (j:=0) rfl,%[|2],SqT.of eK,Ac (j:=1) rfl,?_,?_]
   ·exact zAC (show (("back":Str)++(" ":Str)).length+p.nm.length<=1000 by have:(("back":Str)++(" ":Str)).length=5:=rfl;have:=hg.2.1;omega) %[|2]
   refine#[SqT.of eK,Ac (j:=0) rfl,rfl,Aw ?_];refine#[SqT.of eK,Ac (j:=0) rfl,rfl,AD ?_];have gk:=eX.hl;rw[el]at gk;have iM:=eX.sa;rw[eg]at iM;obtain⟨o1,o2,o3⟩:=hZ.own hp;refine#[eX.ob,Dr,.inl #[rfl,_,SqL.of gk],gk,CD _ _,?_];refine#[(Af o2).trans eX.ob,FB,.inl #[rfl,_,SqL.of ((Af o3).trans iM)],(Af o3).trans iM,CD _ _,?_];rw[zAY,zAY];have hM2:=eX.backed o1 o2 o3 hE2 hL2;have b2:But [p.d,p.sa,p.hl] H1 (upd (upd H1 p.hl (.lst ls)) p.sa (.lst gs)):=A0B.trans (But.upd %[|1]) (But.upd %[|1]);have iH:=ft.alter (p':=SS p gs ls) hp b2 rfl rfl rfl rfl hM2;have hd2:upd (upd H1 p.hl (.lst ls)) p.sa (.lst gs) da=some (.tup (Dd.bck p.nm).tup):=(Af (AV eK iM %[|11])).trans ((Af (AV eK gk %[|11])).trans eK);have b3:But [p.d,p.sa,p.hl,Z.ln] H (upd (upd H1 p.hl (.lst ls)) p.sa (.lst gs)):=A0B.trans (Aj s1) (But.wide (λc hc=>by simp only[zAD,zAB,or_false]at hc ⊢;rcases hc with h|h|h<;>simp[h]) b2);have he0:A1 M (upd (upd H1 p.hl (.lst ls)) p.sa (.lst gs)) e0=some (.tup [e.1,.str e.2.2]):=by rw[BA mp.ms,BA mp.mh];exact hp0
   generalize upd (upd H1 p.hl _) p.sa _=H2 at*;refine#[SqT.of hd2,Ac (j:=0) rfl,rfl,Aw ?_];refine#[SqT.of hd2,Ac (j:=0) rfl,rfl,Aw ?_];refine#[iH.ob,CH,.inl #[rfl,_,SqL.of iH.ln],iH.ln,An (by show Z.ls.length<=1000;have:=hO.ls;omega),?_];have hZ3:=iH.wrote (.str (AE ["back",p.nm]));rw[CY]at hZ3;have b4:But [p.d,p.sa,p.hl,Z.ln] H (upd H2 Z.ln (.lst (Z.ls++[.str (("back":Str)++" "++p.nm)]))):=b3.trans (But.upd (a:=Z.ln) %[|1]);refine#[C4,λr hr=>?_]
   have est:%[|37] (BS Z.ts) (.bck p.nm)=#["done",.pr e.1 e.2.2,Z.marks,EL (BS Z.ts) p.nm (DB p.w),some (AE ["back",p.nm])]:=by
    simp only[AB,B1 hZ.na hp];rw[if_neg (by rw[he];decide),gH]
   rw[est]at q;have ne0:e0≠Z.ln:=λz=>(Bc he0).2 (by rw[z];exact hZ.ml)
   obtain⟨ve,hve⟩:=NW hpa;refine q r (.ref e0) M _ _ A0A #[e0,ve,rfl,hve,Ab hr _ _ _ ((Af ne0).trans (Bc he0).1)] (MGo.own hZ hp hM b4 (Ab hr _) hZ3 (Kc hZ hp rfl rfl rfl) rfl rfl rfl rfl (Kf (p':=SS p gs ls) rfl) (by rw[CY];rfl))
 |edd k=>
  exists 600;exists 13;exists 24
  ·refine AD #[C4,λr hr=>?_];have e:%[|37] (BS Z.ts) (.edd k)=#["NoTalk",.non,Z.marks,BS Z.ts,none]:=by simp only[AB,DV c]
   exists 607
  subst ep;refine Aw ?_;have mp:=hZ.tt p hp;refine#[mp.ob,Ew,p.w.ended,rfl,?_]
  cases he:p.w.ended with
  |true=>
   refine AD #[SqT.of hd,Ac (j:=0) rfl,rfl,AD #[C4,λr hr=>?_]]
   have e:%[|37] (BS Z.ts) (.edd p.nm)=#["TalkOver",.non,Z.marks,BS Z.ts,none]:=by
    simp only[AB,B1 hZ.na hp];exact if_pos he
   exists 607
  |false=>
   refine Aw (Aw ?_);refine#[SqT.of hd,Ac (j:=0) rfl,rfl,Aw (Aw ?_)];have hg:A0H p.nm:=hD;refine#[SqT.of hd,Ac (j:=0) rfl,%[|2],SqT.of hd,Ac (j:=1) rfl,?_,?_]
   ·exact zAC (show (("end":Str)++(" ":Str)).length+p.nm.length<=1000 by have:(("end":Str)++(" ":Str)).length=4:=rfl;have:=hg.2.1;omega) %[|2]
   exists 600;exists 9;refine#[p.d,_,_,rfl,rfl,mp.ob,(by show 8<=1000;decide),?_];rw[W1];obtain⟨o1,o2,o3⟩:=hZ.own hp;have b1:But [p.d,p.sa,p.hl] H (upd H p.d (.dK (dS (DL (GF p))))):=But.upd %[|1];have b1':But [p.d,Z.ln] H (upd H p.d (.dK (dS (DL (GF p))))):=But.upd %[|1];have ft:=hZ.alter (p':=GF p) hp b1 rfl rfl rfl rfl (mp.ended o1 o2);have eK:upd H p.d (.dK (dS (DL (GF p)))) da=some (.tup (Dd.edd p.nm).tup):=(Af (AV hd mp.ob %[|11])).trans hd;generalize upd H p.d _=H1 at*;refine#[SqT.of eK,Ac (j:=0) rfl,rfl,Aw ?_];refine#[ft.ob,CH,.inl #[rfl,_,SqL.of ft.ln],ft.ln,An (by show Z.ls.length<=1000;have:=hO.ls;omega),?_];have iH:=ft.wrote (.str (AE ["end",p.nm]));rw[CY]at iH;have b2:But [p.d,Z.ln] H (upd H1 Z.ln (.lst (Z.ls++[.str (("end":Str)++" "++p.nm)]))):=b1'.trans (But.upd (a:=Z.ln) %[|1]);refine#[C4,λr hr=>?_]
   have e:%[|37] (BS Z.ts) (.edd p.nm)=#["done",.non,Z.marks,EL (BS Z.ts) p.nm (GY p.w),some (AE ["end",p.nm])]:=by
    simp only[AB,B1 hZ.na hp];exact if_neg (by rw[he];decide)
   rw[e]at q;refine q r .non M _ _ A0A rfl (MGo.go (N:=[]) (L:=[p.d,Z.ln]) hM b2 ?_ ?_ ?_ (λ_ z=>nomatch z) (λ_ z=>nomatch z) (Ab hr _) iH rfl rfl rfl rfl (Kf (p':=GF p) rfl) (by rw[CY];rfl) (λc h=>.inl (by rw[Kc (p':=GF p) hZ hp rfl rfl rfl]at h;exact h)))
   ·intro c hc;exists 609
    ·exact List.mem_cons_of_mem _ %[(List.mem_cons_of_mem _ (B7 hp).1)|116]
    ·simp[Bx]
   ·intro c hc;exists 609
    ·exact mp.md
    ·exact hZ.ml
   ·intro c hc;exists 609
    ·intro z;by_cases ec:p.d=Z.ln
     ·rw[ec,A0A]at z;cases z
     ·rw[Af ec]at z;exact ft.full p.d (List.mem_cons_of_mem _ (List.mem_cons_of_mem _ (List.mem_cons_of_mem _ (B7 (ts:=Ef Z.ts p.nm (GF p)) (p:=GF p) (List.mem_map.mpr #[p,hp,if_pos rfl])).1))) z
    ·rw[A0A];intro z;cases z
 |drp k=>
  exists 600;exists 13;exists 24
  ·refine AD #[C4,λr hr=>?_];have e:%[|37] (BS Z.ts) (.drp k)=#["NoTalk",.non,Z.marks,BS Z.ts,none]:=by simp only[AB,DV c]
   exists 607
  subst ep;refine Aw ?_;have mp:=hZ.tt p hp;have hg:A0H p.nm:=hD;refine Da (λσ H'=>σ=[some (.ref Z.st),some (.ref da),some (.ref p.d),none,none,none]/\H=H') ?_ (λnext=>?_)
  rotate_left
  ·refine#[mp.ob,Ew,p.w.ended,rfl,?_]
   cases he:p.w.ended with
   |true=>exact AD #[SqT.of hd,Ac (j:=0) rfl,rfl,Aw (next _ _ #[rfl,rfl])]
   |false=>exact Aw (Aw (next _ _ #[rfl,rfl]))
  rintro σ _ ⟨rfl,rfl⟩;refine#[SqT.of hd,Ac (j:=0) rfl,rfl,Aw (Aw ?_)];refine#[SqT.of hd,Ac (j:=0) rfl,%[|2],SqT.of hd,Ac (j:=1) rfl,?_,?_]
  ·exact zAC (show (("drop":Str)++(" ":Str)).length+p.nm.length<=1000 by have:(("drop":Str)++(" ":Str)).length=5:=rfl;have:=hg.2.1;omega) %[|2]
  exists 600;exists 13;exists 9;refine#[hZ.ob,Dn,#[_,SqL.of hZ.tl],λcc acc dq=>J8 (f:=λp:Mt=>V.ref p.d) (p:=λq:Mt=>decide (q.nm≠p.nm)) (rest:=[some (.ref da)]) (SqL.of hZ.tl) dq (zA7 hO.ts) (λo ho H2 s2 R hR=>?_) (λv0 H2 s2 hac=>?_) none]
  ·refine#[s2 _ _ (hZ.tt o ho).ob,GS,SqT.of (s2 _ _ hd),Ac (j:=1) rfl,rfl,?_];have:=hR H2 (A0B.refl _);rw[show decide (o.nm≠p.nm)=(!decide (V.str o.nm=V.str p.nm)) by by_cases c:o.nm=p.nm<;>simp[c]]at this;exact this
  refine#[Z.st,_,_,rfl,rfl,s2 _ _ hZ.ob,(by show 5<=1000;decide),?_];rw[Ur (ts:=Z.ts.filter λq=>decide (q.nm≠p.nm))];have ft:=hZ.drop (k:=p.nm) s2 dq hac;have eK:=s2 _ _ hd;have nst:da≠Z.st:=AV hd hZ.ob %[|11];have hd2:=(Af (H:=H2) (o:=.dK (dS (Ip {Z with tl:=acc,ts:=Z.ts.filter λq=>decide (q.nm≠p.nm)}))) nst).trans eK;have b1:But [Z.st,Z.ln] H (upd H2 Z.st (.dK (dS (Ip {Z with tl:=acc,ts:=Z.ts.filter λq=>decide (q.nm≠p.nm)})))):=A0B.trans (Aj s2) (But.upd %[|1]);generalize upd H2 Z.st _=H3 at*;refine#[ft.ob,CH,.inl #[rfl,_,SqL.of ft.ln],ft.ln,An (by show Z.ls.length<=1000;have:=hO.ls;omega),?_];have iH:=ft.wrote (.str (AE ["drop",p.nm]));rw[CY]at iH;have b2:But [Z.st,Z.ln] H (upd H3 Z.ln (.lst (Z.ls++[.str (("drop":Str)++" "++p.nm)]))):=b1.trans (But.upd (a:=Z.ln) %[|1]);refine#[C4,λr hr=>?_]
  have est:%[|37] (BS Z.ts) (.drp p.nm)=#["done",.non,Z.marks,(BS Z.ts).filter λq=>decide (q.1≠p.nm),some (AE ["drop",p.nm])]:=by
   simp only[AB,B1 hZ.na hp]
  rw[est]at q;refine q r .non _ _ _ A0A rfl (MGo.go (N:=[acc]) (L:=[Z.st,Z.ln]) hM b2 ?_ ?_ ?_ ?_ ?_ (Ab hr _) iH rfl rfl rfl rfl MS (by rw[CY];rfl) ?_)
  ·intro c hc;exists 10;rcases hc with rfl|rfl<;>simp[Bx]
  ·intro c hc;exists 609
   ·exact hZ.ms
   ·exact hZ.ml
  ·intro c hc;exists 609
   ·exact iH.full _ (by simp[Bx])
   ·exact iH.full _ (by simp[Bx])
  ·intro c hc;rw[List.mem_singleton.mp hc];exact dq
  ·intro c hc;rw[List.mem_singleton.mp hc];exact iH.full _ (by simp[Bx])
  ·intro c hc;exists 6
   ·exact .inl (by simp[Bx])
   exists 6
   ·exact .inr %[|1]
   exists 6
   ·exact .inl (by simp[Bx])
   exact .inl %[(List.mem_cons_of_mem _ (List.mem_cons_of_mem _ ((OZ zAM).subset hc)))|116]
end
abbrev alph:Str:="abcdefghijklmnopqrstuvwxyz"
theorem WH:∀j:Nat,j<26->DR alph.cps.toList (j:Int)=some (97+j):=by decide +kernel
theorem RK:alph.length<=sizeLine:=by decide
def HV(z:Str):Prop:=(Em z).all Dv=true
theorem HH(h:HV z)(hc:97<=c/\c<=122):HV (z++#[#v[c]]):=by
 unfold HV at*;rw[AR,zDE,h];show (true && (Dv c && true))=true;unfold Dv;rw[decide_eq_true hc];rfl
theorem QY(h:HV z):∀c∈z.cps.toList,c<128:=λc hc=>by
 have:=List.all_eq_true.mp h c hc;unfold Dv at this;have:=of_decide_eq_true this;omega
theorem A0H.lt(h:A0H z):∀c∈z.cps.toList,c<128:=QY h.2.2
theorem PP(z:Str)(zs:List Str):Oc (.str z) (zs.map V.str)=decide (z∈zs):=by
 unfold Oc;rw[zDQ,zA4,zCF,decide_eq_true_iff];constructor
 ·rintro⟨y,hy,e⟩;have e:(y == z)=true:=e;rw[<-eq_of_beq e];exact hy
 ·intro h;exact#[z,h,beq_self_eq_true z]
theorem V3{zs:List Str}{z:Str}(h:zs.Nodup)(hz:z∉zs):(zs++[z]).Nodup:=List.nodup_append.mpr #[h,List.nodup_cons.mpr #[(λe=>by cases e),zBI],λb hb c hc e=>hz (by rw[<-List.mem_singleton.mp hc,<-e];exact hb)]
def Nj(zs:List Str)(k:Nat):Nat:=(zs.filter λy=>decide (k<=y.length)).length
theorem Yl(zs:List Str)(k:Nat):Nj zs k<=zs.length:=zAV _ _
theorem Lp(k:Nat):∀zs:List Str,Nj zs (k+1)<=Nj zs k
 |[]=>zAA _
 |y::zs=>by
  have ih:=Lp k zs;unfold Nj at*;rw[zBX,zBX];by_cases h1:k+1<=y.length
  ·rw[if_pos (decide_eq_true h1),if_pos (decide_eq_true %[|0])];simp only[zAO];omega
  ·rw[if_neg (by simpa using h1)];split
   ·simp only[zAO];omega
   ·exact ih
theorem Ux:∀{zs:List Str}{n:Str},n∈zs->Nj zs (n.length+1)<Nj zs n.length
 |[],_,h=>nomatch h
 |y::zs,n,h=>by
  have hm:=Lp n.length zs;by_cases e:y=n
  ·subst e;unfold Nj at*;rw[zBX,zBX,if_neg %[|1],if_pos %[|1]];simp only[zAO];omega
  ·have ih:=Ux (zs:=zs) (n:=n) (by
    rcases List.mem_cons.mp h with z|z
    ·exact absurd z.symm e
    ·exact z)
   unfold Nj at*;rw[zBX,zBX];by_cases h1:n.length+1<=y.length
   ·rw[if_pos (decide_eq_true h1),if_pos (decide_eq_true %[|0])];simp only[zAO];omega
   ·rw[if_neg (by simpa using h1)];split
    ·simp only[zAO];omega
    ·exact ih
theorem SL(Mid:L2.St->Hp->Prop)(h2:∀σ' H',Mid σ' H'->u D σ' H')(h1:(∀σ' H',Mid σ' H'->u D σ' H')->t {D with nx:=u D} σ H):VZ t u D σ H:=h1 h2
inductive PX(vs:List V)(H:Hp)(Q:VK)(E:XK):Prop|mk(n:Int)(_:vs=[.int n])(_:0<=n)(_:∀z:Str,A0H z->Q (.str z) H)
inductive LP(K:PySem.W.Frag)(vs:List V)(H:Hp)(Q:VK)(E:XK):Prop|mk(a:Addr)(ns:List Int)(_:vs=[.ref a])(_:SqL K H a %[|28])(_:ns.length<=63)(_:∀(l:Addr)(zs:List Str)(H':Hp),A0B H H'->H l=none->H' l=some (.lst (zs.map V.str))->zs.length=3->zs.Nodup->(∀z∈zs,A0H z)->Q (.ref l) H')
section
def A1M:=Au Sz ["_law_n","_law_size","_law_found","_law_turn"] 1
def A1O:=Au Oi ["_law_script","_law_found","_law_k","_law_name_here"] 1
theorem R4(de:%[|5]):%[|8] "_law_name" BC 1 PX:=by
 refine de.h12.ok A1M ?_;rintro bz f dm A outer s H _ Q E hr ⟨n,rfl,hn,q⟩
 refine#[_,Aa (AC 1 A1M.nd (Ap C2 Ad (Ap A4 (pv 0) Ad)))
  (Aa (AC 0 A1M.nd %[|55])
  (Aa (AC 2 A1M.nd Ae)
  (Aa (BB zAR rfl (%[|68] (AI (pv 1))) (Bo 3 A1M.nd)
   (Aa (AC 2 A1M.nd (Ap A6 (pv 2) (Am F0 Ae (Ap A4 (pv 0) Ad))))
   (Ak (AC 0 A1M.nd %[|55]))))
  (AX (pv 2))))),?_]
 have e0:=zA1 n (show (8:Int)≠0 by decide);have e1:=zA3 n (show (0:Int)<8 by decide);refine#[(by show (0:Int)<8;decide),%[|43],?_];refine#[%[|0],%[|0],Bn (λi σ H1=>H1=H/\Fb λ(k:Int)(z:Str)(v0:Option V)=>Im (σ=[some (.int k),some (.int (1+n%8)),some (.str z),v0]) (0<=k) (z.length=i) (HV z)) #[rfl,_,_,_,rfl,zCA hn %[|2],rfl,rfl] ?_ ?_]
 ·rintro i σ H1 hi ⟨rfl,k,z,v0,rfl,hk,hz,hs⟩;have hi8:i<8:=by omega
  have e2:=zA1 k (show (26:Int)≠0 by decide);have e3:=zA3 k (show (0:Int)<26 by decide);obtain⟨j,hj⟩:=zBT e2;have hj26:j<26:=by omega
  refine#[(by show (0:Int)<26;decide),_,_,_,rfl,rfl,RK,(by show DR alph.cps.toList (k%26)=_;rw[hj];exact WH j hj26),?_,?_]
  ·show z.length+1<=sizeLine;rw[hz];exact zAC (show i+1<=8 by omega) %[|2]
  refine#[%[|43],rfl,_,_,_,rfl,zCA hk %[|2],?_,HH hs %[|0]];rw[Bq,AR,zA,<-Bq,hz];rfl
 ·rintro σ H1 ⟨rfl,k,z,v0,rfl,hk,hz,hs⟩;refine q z #[?_,?_,hs]<;>omega
theorem QD(de:%[|5]):%[|8] "_law_names" BC 2 (LP K):=by
 refine de.h13.ok A1O ?_;rintro bz f dm A outer s H _ Q E hr ⟨a,ns,rfl,hS,h63,q⟩
 refine#[_,Aa (AC 1 A1O.nd (Av Bi))
  (Aa (BB zAR rfl (%[|68] (AI Ad)) (Bo 2 A1O.nd)
   (Aa (AC 3 A1O.nd (Ax (R4 de) hr Al (AI (Ap Fw %[|74] (Am Ay (Av (Ag Ad (AN (Ap E4 Ad Ad) (Ap E4 Ad Ad)))) (pv 2))))))
   (Aa (Aq (Cp Ez (pv 3) (pv 1) %[|32])
    (Ak (AC 3 A1O.nd (Am Ay (Av (Ag Ae (AN Ae Ae))) (pv 2))))
    Ah)
   (Aa (Ei zAR (Cp Ez (pv 3) (pv 1) %[|32])
    (Ak (AC 3 A1O.nd (Ap A6 (pv 3) Ae))))
   (Ak (As (A7 (pv 1) (AI (pv 3)))))))))
  (AX (pv 1))),?_]
 refine#[GD,λfo gT=>?_];have s1:=Ab gT %[|9];have fo1:upd H fo %[|9] fo=some (.lst (([]:List Str).map V.str)):=A0A;generalize upd H fo _=H1 at*;refine#[by decide,by decide,Bn (λi σ H2=>Fb λ(v0 v1:Option V)(zs:List Str)=>Zw (σ=[some (.ref a),some (.ref fo),v0,v1]) (A0B H H2) (H2 fo=some (.lst (zs.map V.str))) (zs.length=i) (zs.Nodup) (∀z∈zs,A0H z)) #[_,_,[],rfl,s1,fo1,rfl,zBI,λz hz=>by simp at hz] ?_ ?_]
 ·rintro i σ H2 hi ⟨v0,v1,zs,rfl,s2,fo2,lz,hnd,hgz⟩
  have hi3:i<3:=by
   have h0:i<(3:Int).toNat:=hi;exact h0
  rw[zB9]
  obtain⟨y,hy0,g7,hya⟩:∃y:Int,BV (0<y) (y.natAbs.log2<9000) (DR %[|103] (i:Int)=some (.int y)):=by
   match i,hi3 with
   |0,_=>exact#[1,by decide,by decide,Ac (j:=0) rfl]
   |1,_=>exact#[_,by decide,by decide,Ac (j:=1) rfl]
   |2,_=>exact#[_,by decide,by decide,Ac (j:=2) rfl]
  refine#[a,ns,5,rfl,s2.seq hS,h63,by decide,by decide,λn H3 hn s3=>?_];refine#[%[|81],%[|81],ML,λL hL=>?_];have s4:=Ab hL (.lst %[|103]);have L4:upd H3 L (.lst %[|103]) L=some (.lst %[|103]):=A0A;dsimp only;generalize upd H3 L _=H4 at*;refine#[SqL.of L4,hya,#[hy0,g7],_,rfl,zCA hn (Int.le_of_lt hy0),λz hz=>?_];have u4:=s2.trans (s3.trans s4);have fo4:=s4 _ _ (s3 _ _ fo2);have flz:(zs.map V.str).all C9=true:=by rw[zDD];exact List.all_eq_true.mpr λ_ _=>rfl
  have nfo:∀{H':Hp},A0B H4 H'->H' fo=some (.lst (zs.map V.str)):=λs=>s _ _ fo4
  refine Yt (σ':=[some (.ref a),some (.ref fo),some (.int (i:Int)),some (.str z)]) rfl ?_;refine SL (λσ H5=>∃nm:Str,Im (σ=%[|102]) (A0B H4 H5) (A0H nm) (nm∉zs\/nm.length+Nj zs nm.length<=3)) ?_ ?_
  ·rintro σ H5 ⟨nm,rfl,s5,hg5,hc5⟩;refine SL (λσ H6=>∃nm:Str,Im (σ=%[|102]) (A0B H4 H6) (A0H nm) (nm∉zs)) ?_ ?_
   ·rintro σ H6 ⟨nm,rfl,s6,hg6,hnz⟩;refine#[.inl #[rfl,_,SqL.of (nfo s6)],nfo s6,An %[|58],?_];refine#[_,_,zs++[nm],rfl,Ao (u4.trans s6) gT _,by rw[A0A,List.map_append];rfl,by rw[zA,lz];rfl,V3 hnd hnz,λz' hz'=>?_];rcases List.mem_append.mp hz' with h|h
    ·exact hgz z' h
    ·rw[List.mem_singleton.mp h];exact hg6
   ·intro next;refine#[λm σ H6=>∃nm:Str,Il (σ=%[|102]) (A0B H4 H6) (A0H nm) (nm∉zs\/nm.length+Nj zs nm.length<=3) (m=Nj zs nm.length),#[_,nm,rfl,s5,hg5,hc5,rfl],?_];rintro m σ H6 ⟨nm,rfl,s6,hg6,hc6,rfl⟩;refine#[fo,_,rfl,.inl (SqL.of (nfo s6)),rfl,flz,?_];show If (Oc (.str nm) (zs.map V.str)) _ _;rw[PP];by_cases c:nm∈zs
    ·refine BL c ?_
     have h3:nm.length+Nj zs nm.length<=3:=by
      rcases hc6 with h|h
      ·exact absurd c h
      ·exact h
     have lt:=Ux c;have ln:(nm++("z":Str)).length=nm.length+1:=by rw[Bq,AR,zA,<-Bq];rfl
     refine#[λσ' H'=>∃m',m'<Nj zs nm.length/\∃nm:Str,Il (σ'=%[|102]) (A0B H4 H') (A0H nm) (nm∉zs\/nm.length+Nj zs nm.length<=3) (m'=Nj zs nm.length),λ_ _ h=>h,?_];refine#[?_,_,?_,nm++("z":Str),rfl,s6,#[by omega,by omega,HH (c:=122) hg6.2.2 %[|2]],.inr (by rw[ln];omega),rfl]
     ·show nm.length+1<=sizeLine;exact zAC (show nm.length+1<=9 by have:=hg6.2.1;omega) %[|2]
     ·rw[ln];exact lt
    ·refine Bz c ?_;exact next _ _ #[nm,rfl,s6,hg6,c]
  ·intro next;refine#[fo,_,rfl,.inl (SqL.of fo4),rfl,flz,?_];show If (Oc (.str z) (zs.map V.str)) _ _;rw[PP];by_cases c:z∈zs
   ·refine BL c ?_;refine#[ML,λM hM=>?_]
    obtain⟨y,hy,hg,fZ⟩:∃y:Str,BV (DR [V.str "a",V.str "b",V.str "c"] (i:Int)=some (.str y)) (A0H y) (y.length=1):=by
     match i,hi3 with
     |0,_=>exact#["a",Ac (j:=0) rfl,by decide,rfl]
     |1,_=>exact#["b",Ac (j:=1) rfl,by decide,rfl]
     |2,_=>exact#["c",Ac (j:=2) rfl,by decide,rfl]
    refine#[SqL.of A0A,hy,next _ _ #[y,rfl,Ab hM _,hg,.inr ?_]];have:=Yl zs y.length;omega
   ·refine Bz c ?_;exact next _ _ #[z,rfl,A0B.refl _,hz,.inl c]
 ·rintro σ H2 ⟨v0,v1,zs,rfl,s2,fo2,lz,hnd,hgz⟩;exact q fo zs H2 s2 gT fo2 lz hnd hgz
end
theorem EM(h:%[|21]):∀c∈BT S,c∈M:=λc hc=>by
 exists 6
 ·exact h.h.mx
 exists 6
 ·exact h.h.ml
 exists 6
 ·exact h.mt
 obtain⟨p,hp,hc⟩:=List.mem_flatMap.mp hc;have t:=(h.tt p hp).1;exists 10;rcases hc with rfl|rfl|rfl
 ·exact t.ma
 ·exact t.mg
 ·exact t.ml
theorem N4(hp:p∈S.ts):∀c∈[p.a,p.u.gv,p.u.lf,S.U.ln],c∈BT S:=λc hc=>by
 exists 10;have go:∀b∈[p.a,p.u.gv,p.u.lf],b∈BT S:=λb hb=>List.mem_cons_of_mem _ %[(List.mem_cons_of_mem _ (List.mem_flatMap.mpr #[p,hp,hb]))|116]
 rcases hc with rfl|rfl|rfl|rfl
 ·exact go _ %[|1]
 ·exact go _ %[|1]
 ·exact go _ %[|1]
 ·simp[BT]
structure HGo(C cK:Addr)(M:%[|3])(H:Hp)(S:HSt)(o:PZ)(M':%[|3])(H':Hp)(S':HSt):Prop where
 h:A0C M' C cK H' S'
 x:S'.x=S.x
 m:S'.m=S.m
 room:S'.room=S.room
 marks:S'.marks=o.marks
 ts:EH S'.ts=o.ts
 ls:S'.ls=S.ls++o.line.toList.map V.str
 s:A0B (A1 M H) (A1 M' H')
 sub:∀b∈M,b∈M'
 out:∀c∈M,c∉BT S->H' c=H c
 nw:∀c∈BT S',c∈BT S\/H c=none
theorem HGo.no{C cK:Addr}{M:%[|3]}{H H':Hp}{S:HSt}{w:Str}{x:Told}(h:%[|21])(s:A0B H H'):HGo C cK M H S #[w,x,S.marks,EH S.ts,none] M H' S:=
 #[h.keep s,rfl,rfl,rfl,rfl,rfl,by simp,Aj s,λ_ h=>h,λc hc _=>FH s (h.fr c hc),λ_ h=>.inl h]
theorem HGo.go(h:%[|21])(b:But L H H')(hL:∀c∈L,c∈BT S)(hN:∀c∈N,H c=none)(h':A0C (N++M) C cK H' S')(e1:S'.x=S.x)(e2:S'.m=S.m)(e3:S'.room=S.room)(e4:S'.marks=o.marks)(e5:EH S'.ts=o.ts)(e6:S'.ls=S.ls++o.line.toList.map V.str)(e7:∀c∈BT S',c∈BT S\/c∈N):HGo C cK M H S o (N++M) H' S':=by
 refine#[h',e1,e2,e3,e4,e5,e6,λp u e=>?_,λc h=>zAE _ h,λc hc hn=>?_,λc hc=>(e7 c hc).imp id (hN c)]
 ·obtain⟨h1,h2⟩:=Bc e;refine AW (b.at h1 λz=>h2 (EM h p (hL p z))) λz=>?_
  rcases List.mem_append.mp z with q|q
  ·rw[hN p q]at h1;cases h1
  ·exact h2 q
 ·cases e:H c with
  |none=>exact absurd e (h.fr c hc)
  |some o=>exact b.at e λz=>hn (hL c z)
theorem EZ(ts:List Tw):(EH ts).map (·.1)=CM ts:=by
 unfold EH CM;rw[zA0];rfl
theorem Mr(ts:List Tw)(p:Tw):EH (ts++[p])=EH ts++[(p.nm,p.w)]:=by
 unfold EH;rw[List.map_append];rfl
theorem B3(nd:(CM ts).Nodup)(hp:p∈ts):BP (EH ts) p.nm=some p.w:=
 LE (by rw[EZ];exact nd) (List.mem_map.mpr #[p,hp,rfl])
theorem DU(h:k∉CM ts):BP (EH ts) k=none:=A1R.mpr (by rw[EZ];exact h)
theorem JT{ts:List Tw}{k:Str}{u:Tk}{w:Ta}:EH (Dq ts k u w)=EL (EH ts) k w:=by
 unfold EH Dq EL;rw[zA0,zA0];refine zB4 λq _=>?_
 show ((if q.nm=k then {q with u:=u,w:=w}else q).nm,(if q.nm=k then {q with u:=u,w:=w}else q).w)=(if q.nm=k then (q.nm,w)else (q.nm,q.w));by_cases c:q.nm=k
 ·rw[if_pos c,if_pos c]
 ·rw[if_neg c,if_neg c]
theorem Na:EH (ts.filter λp=>decide (p.nm≠k))=(EH ts).filter λp=>decide (p.1≠k):=by
 unfold EH;rw[List.filter_map];rfl
theorem K2(h:c∈BT (LS S p l)):c∈BT S\/c∈[p.a,p.u.gv,p.u.lf]:=by
 have e:BT (LS S p l)=BT S++[p.a,p.u.gv,p.u.lf]:=by
  unfold BT LS;show _::_::_::(S.ts++[p]).flatMap _=_;rw[List.flatMap_append];rfl
 rw[e]at h;exact List.mem_append.mp h
theorem JY{M:%[|3]}{C cK:Addr}{H:Hp}{S:HSt}{p:Tw}{u:Tk}{w:Ta}{l:Str}(h:%[|21])(hp:p∈S.ts)(e1:u.gv=p.u.gv)(e2:u.lf=p.u.lf){c:Addr}(hc:c∈BT (NI S p.nm u w l)):c∈BT S:=by
 exists 6
 ·simp[BT,NI]
 exists 6
 ·simp[BT,NI]
 exists 6
 ·simp[BT,NI]
 obtain⟨q,hq,jN⟩:=List.mem_flatMap.mp hc;clear hc;have go:∀{q:Tw},q∈S.ts->∀{c},c∈[q.a,q.u.gv,q.u.lf]->c∈BT S:=λ{q} hq {c} hc=>List.mem_cons_of_mem _ %[(List.mem_cons_of_mem _ (List.mem_flatMap.mpr #[_,hq,hc]))|116]
 rcases Lc hq with⟨hq,_⟩|⟨p',eJ,en,rfl⟩
 ·exact go hq jN
 ·have e:p'=p:=BW h.na eJ hp en;subst e;refine go hp ?_;show c∈[p'.a,p'.u.gv,p'.u.lf];rw[<-e1,<-e2];exact jN
theorem RZ(hc:c∈BT (Hr S k)):c∈BT S:=by
 exists 6
 ·simp[BT,Hr]
 exists 6
 ·simp[BT,Hr]
 exists 6
 ·simp[BT,Hr]
 obtain⟨q,hq,jN⟩:=List.mem_flatMap.mp hc;exact List.mem_cons_of_mem _ (List.mem_cons_of_mem _ %[(List.mem_flatMap.mpr #[q,(List.mem_filter.mp hq).1,jN])|116])
theorem JK:∀c∈[S.U.tk,S.U.ln],c∈BT S:=λc hc=>by
 exists 10;rcases hc with rfl|rfl<;>simp[BT]
theorem CN(h:A0H z):z.length<=100/\∀c∈z.cps.toList,c<128:=#[zAC h.2.1 %[|2],h.lt]
def UT(j9:Nat->Addr)(w:Str):Addr:=j9 (if w="NoLetter" then 0 else if w="NoWorld" then 1 else if w="NoTalk" then 2 else if w="NameTaken" then 3 else if w="NoStanding" then 4 else if w="TalkOver" then 5 else 6)
structure ZZ(S:HSt):Prop where
 ls:S.ls.length<900
 ts:S.ts.length<900
 w:∀p∈S.ts,p.w.ents.length<899/\p.w.lefts.length=p.w.ents.length+1
abbrev Be(S:HSt)(D:Dd):PZ:=AB S.m S.room S.marks (EH S.ts) D
inductive HQ(C cK:Addr)(j9:Nat->Addr)(vs:List V)(H:Hp)(Q:VK)(E:XK):Prop|mk(M:%[|3])(S:HSt)(D:Dd)(da:Addr)(_:vs=[.ref S.x,.ref da])(_:H da=some (.tup D.tup))(_:%[|21])(_:ZZ S)(_:D.Ok S.m (A1 M H))(_:((Be S D).word≠"done"->∀H',A0B H H'->E (.ref (UT j9 (Be S D).word)) none H'))(_:((Be S D).word="done"->∀(x:V)(M':%[|3])(H':Hp)(S':HSt),(Be S D).told.At H' x->HGo C cK M H S (Be S D) M' H' S'->Q x H'))
section
variable {j9:Nat->Addr}
def Ny:=Au IH ["_law_house","_law_deed_here"] 2
theorem My(de:%[|5]):%[|8] "_law_called" (EI P w) 9 (HQ cH cK (%[|84])):=by
 refine de.h76.okX Ny ?_;rintro bz f dm A outer s H _ Q E hr ⟨M,S,D,da,rfl,hd,hT,hO,hD,qN,q⟩
 refine#[_,Aa (Aq (%[|60])
   (AX (By (pv 0) de.HX.cl (Rz de) hr %[|24] (AN %[|27] %[|27])))
   Ah)
  (Aa (Aq (%[|60])
   (AX (By (pv 0) de.HX.cl (Rv de) hr %[|24] (Ag %[|27] (Ag %[|27] (AN %[|27] %[|27])))))
   Ah)
  (Aa (Aq (%[|60])
   (AX (By (pv 0) de.HX.cl (SA de) hr %[|24] (AN %[|27] %[|27])))
   Ah)
  (Aa (Aq (%[|60])
   (AX (By (pv 0) de.HX.cl (WW de) hr %[|24] (AN %[|27] %[|27])))
   Ah)
  (Aa (Aq (%[|60])
   (AX (By (pv 0) de.HX.cl (RN de) hr %[|24] (AI %[|27])))
   Ah)
  (Aa (Aq (%[|60])
   (AX (By (pv 0) de.HX.cl (Wa de) hr %[|24] (AI %[|27])))
   Ah)
  (AX (By (pv 0) de.HX.cl (RV de) hr %[|24] (AI %[|27])))))))),?_]
 have no:∀{wd:Str}{k:Nat},Be S D=#[wd,.non,S.marks,EH S.ts,none]->wd≠"done"->UT (%[|84]) wd=(%[|84]) k->∀H',A0B H H'->E (.ref ((%[|84]) k)) none H':=λe ne ec H' s'=>by
  have:=qN (by rw[e];exact ne) H' s';rw[e,ec]at this;exact this
 have ok:∀{o:PZ},Be S D=o->o.word="done"->∀(x:V)(M':%[|3])(H':Hp)(S':HSt),o.told.At H' x->HGo cH cK M H S o M' H' S'->Q x H':=λe ed=>by
  have:=q (by rw[e];exact ed);rw[e]at this;exact this
 clear q qN
 cases D with
 |lrn i k=>
  exists 9;refine#[hT.h.ob,TY,SqT.of hd,Ac (j:=1) rfl,SqT.of hd,Ac (j:=2) rfl,S.x,M,S.U,S.m,S.room,S.marks,S.ls,i,k,rfl,hT.h,hT.fr,hO.ls,λc=>?_,λj ej hj ce=>?_,λj ej hj ce mk H' b dB hA=>?_]
  ·exact no (if_pos c) %[|2] rfl
  ·have fG:¬¬MK S.m i:=λz=>z #[by omega,by omega]
   have jf:i.toNat=j:=by omega
   exact no ((if_neg fG).trans (if_pos (by rw[jf];exact ce))) %[|2] rfl
  ·have fG:¬¬MK S.m i:=λz=>z #[by omega,by omega]
   have jf:i.toNat=j:=by omega
   refine ok ((if_neg fG).trans (if_neg (by rw[jf];exact ce))) rfl .non M H' {S with U:=#[S.U.dx,S.U.sp,mk,S.U.tk,S.U.ln],marks:=S.marks.set j k,ls:=S.ls++[.str (AE [Str.ofString "learn",#[#v[97+j]],BR k])]} rfl (HGo.go (N:=[]) hT b ?_ (λ_ z=>nomatch z) (hT.learnt b dB hA) rfl rfl rfl (by rw[jf]) rfl (by rw[jf];rfl) (λc h=>.inl h));intro c hc;exists 10;rcases hc with rfl|rfl<;>simp[BT]
 |beg n kd rl v t=>
  obtain⟨hg,hk,f8,dN,hok,hsz⟩:=hD;exists 13;exists 9;have lk:kd.length<=100:=by rcases hk with rfl|rfl|rfl<;>decide
  have lr:rl.length<=100:=by rcases f8 with rfl|rfl<;>decide
  refine#[hT.h.ob,Tx,SqT.of hd,Ac (j:=1) rfl,SqT.of hd,Ac (j:=2) rfl,SqT.of hd,Ac (j:=3) rfl,SqT.of hd,Ac (j:=4) rfl,M,S,n,kd,rl,v,t,rfl,hT,(CN hg).1,(CN hg).2,dN,Tr.ok.mono hT.h.m5 hok,hsz,lk,lr,hO.ls,hO.ts,λc=>absurd hg c,λ_ c=>?_,λ_ _ c=>absurd hok c,λ_ _ _ c=>absurd #[f8,hk] c,λ_ c _ _ _ c2=>?_,λ_ c _ _ _ c2 a u H' b a0 g0 l0 iu=>?_]
  ·exact no (if_pos (by rw[EZ];exact c)) %[|2] rfl
  ·exact no ((if_neg (by rw[EZ];exact c)).trans (if_pos c2)) %[|2] rfl
  ·exact ok ((if_neg (by rw[EZ];exact c)).trans (if_neg c2)) rfl .non _ H' _ rfl (HGo.go (N:=[a,u.gv,u.lf]) hT b JK (Ca a0 g0 l0) iu rfl rfl rfl rfl (Mr _ _) rfl (λ_ h=>K2 h))
 |frk k n=>
  obtain⟨hgk,hgn⟩:=hD;exists 600;exists 9;refine#[hT.h.ob,Wc,SqT.of hd,Ac (j:=1) rfl,SqT.of hd,Ac (j:=2) rfl,M,S,k,n,rfl,hT,(CN hgk).1,(CN hgn).1,(CN hgn).2,hO.ls,hO.ts,λc=>?_,λ_ c=>absurd hgn c,λc _ c2=>?_,λp hp ep _ c a u H' b a0 g0 l0 iu=>?_]
  ·exact no (wd:="NoTalk") (by simp only[Be,AB,DU c]) %[|2] rfl H (A0B.refl _)
  ·obtain⟨p,hp,rfl⟩:=List.mem_map.mp c;refine no (wd:="NameTaken") ?_ %[|2] rfl;exists 11;exact if_pos (by rw[EZ];exact c2)
  ·subst ep;refine ok (o:=#["done",.non,S.marks,EH S.ts++[(n,p.w)],some (AE ["fork",p.nm,n])]) ?_ rfl .non _ H' _ rfl (HGo.go (N:=[a,u.gv,u.lf]) hT b JK (Ca a0 g0 l0) iu rfl rfl rfl rfl (Mr _ _) rfl (λ_ h=>K2 h));exists 11;exact if_neg (by rw[EZ];exact c)
 |say k v t=>
  obtain⟨hg,dN,hok,hsz⟩:=hD;exists 600;exists 13;exists 9;refine#[hT.h.ob,Y9,SqT.of hd,Ac (j:=1) rfl,SqT.of hd,Ac (j:=2) rfl,M,S,k,v,t,rfl,hT,(CN hg).1,dN,Tr.ok.mono hT.h.m5 hok,hsz,hO.ls,λp hp=>#[by have:=(hO.w p hp).1;omega,by have:=hO.w p hp;omega],λc=>?_,λp hp ep c=>?_,λ_ _ _ _ c=>absurd hok c,λp hp ep c _ u H' b dB eg el iu=>?_]
  ·exact no (wd:="NoTalk") (by simp only[Be,AB,DU c]) %[|2] rfl H (A0B.refl _)
  ·subst ep;refine no (wd:="TalkOver") ?_ %[|2] rfl;exists 11;exact if_pos c
  ·subst ep;refine ok (o:=#["done",.wd (%[|64]),S.marks,EL (EH S.ts) p.nm (GA p.w v t (%[|64])),some (AE ["say",p.nm,Ch t,%[|64]])]) ?_ rfl _ _ H' _ rfl (HGo.go (N:=[]) hT b (N4 hp) (λ_ z=>nomatch z) iu rfl rfl rfl rfl JT rfl (λ_ h=>.inl (JY hT hp eg el h)));exists 11;exact if_neg (by rw[c];decide)
 |bck k=>
  have hg:A0H k:=hD;exists 600;exists 600;exists 9;refine#[hT.h.ob,Wg,SqT.of hd,Ac (j:=1) rfl,M,S,k,rfl,hT,(CN hg).1,hO.ls,λp hp=>(hO.w p hp).2,λc=>?_,λp hp ep c=>?_,λp hp ep c c2=>?_,λp hp ep c c2 r e u H' b dB eg el gH gC hea iu=>?_]
  ·exact no (wd:="NoTalk") (by simp only[Be,AB,DU c]) %[|2] rfl H (A0B.refl _)
  ·subst ep;refine no (wd:="TalkOver") ?_ %[|2] rfl H (A0B.refl _);exists 11;exact if_pos c
  ·subst ep;refine no (wd:="NothingSaid") ?_ %[|2] rfl H (A0B.refl _);exists 11;rw[if_neg (by rw[c];decide),c2];rfl
  ·subst ep;have k3:=(HGo.go (o:=#["done",.pr e.1 e.2.2,S.marks,EL (EH S.ts) p.nm (DB p.w),some (AE ["back",p.nm])]) (N:=[]) hT b (N4 hp) (λ_ z=>nomatch z) iu rfl rfl rfl rfl JT rfl (λ_ h=>.inl (JY hT hp eg el h)));obtain⟨ve,hve⟩:=NW hea;refine ok (o:=#["done",.pr e.1 e.2.2,S.marks,EL (EH S.ts) p.nm (DB p.w),some (AE ["back",p.nm])]) ?_ rfl _ _ H' _ #[r,ve,rfl,hve,(Bc (k3.s _ _ gC)).1] k3;exists 11;rw[if_neg (by rw[c];decide),gH]
 |edd k=>
  have hg:A0H k:=hD;exists 600;exists 600;exists 13;exists 9;refine#[hT.h.ob,YQ,SqT.of hd,Ac (j:=1) rfl,M,S,k,rfl,hT,(CN hg).1,hO.ls,λc=>?_,λp hp ep c=>?_,λp hp ep c H' b dB iu=>?_]
  ·exact no (wd:="NoTalk") (by simp only[Be,AB,DU c]) %[|2] rfl H (A0B.refl _)
  ·subst ep;refine no (wd:="TalkOver") ?_ %[|2] rfl H (A0B.refl _);exists 11;exact if_pos c
  ·subst ep;refine ok (o:=#["done",.non,S.marks,EL (EH S.ts) p.nm (GY p.w),some (AE ["end",p.nm])]) ?_ rfl _ _ H' _ rfl (HGo.go (N:=[]) hT b (N4 hp) (λ_ z=>nomatch z) iu rfl rfl rfl rfl JT rfl (λ_ h=>.inl (JY hT hp rfl rfl h)));exists 11;exact if_neg (by rw[c];decide)
 |drp k=>
  have hg:A0H k:=hD;exists 600;exists 600;exists 600;refine#[hT.h.ob,We,SqT.of hd,Ac (j:=1) rfl,M,S,k,rfl,hT,(CN hg).1,hO.ls,λc=>?_,λc H' b iu=>?_]
  ·exact no (wd:="NoTalk") (by simp only[Be,AB,DU c]) %[|2] rfl H (A0B.refl _)
  ·obtain⟨p,hp,rfl⟩:=List.mem_map.mp c;refine ok (o:=#["done",.non,S.marks,(EH S.ts).filter λq=>decide (q.1≠p.nm),some (AE ["drop",p.nm])]) ?_ rfl _ _ H' _ rfl (HGo.go (N:=[]) hT b JK (λ_ z=>nomatch z) iu rfl rfl rfl rfl Na rfl (λ_ h=>.inl (RZ h)));exists 11
end
def words7:List Str:=["NoLetter","NoWorld","NoTalk","NameTaken","NoStanding","TalkOver","NothingSaid"]
def Jc(y:Nat):Str:=words7.getD y ""
theorem R7:∀y,y<7->UT j9 (Jc y)=j9 y:=λy hy=>by
 rcases (show y=0\/y=1\/y=2\/y=3\/y=4\/y=5\/y=6 by omega)with rfl|rfl|rfl|rfl|rfl|rfl|rfl<;>rfl
theorem VD:∀y,y<7->Jc y≠"done":=by decide
theorem A2R:(AB m room marks ts D).word="done"\/∃y,y<7/\AB m room marks ts D=#[Jc y,.non,marks,ts,none]:=by
 cases D with
 |lrn i k=>
  unfold AB;dsimp only;split
  ·exact .inr #[0,by decide,rfl]
  ·split
   ·exact .inr #[1,by decide,rfl]
   ·exact .inl rfl
 |beg n kd rl v t=>
  unfold AB;dsimp only;split
  ·exact .inr #[3,by decide,rfl]
  ·split
   ·exact .inr #[4,by decide,rfl]
   ·exact .inl rfl
 |frk k n=>
  unfold AB;dsimp only;split
  ·exact .inr #[2,by decide,rfl]
  ·split
   ·exact .inr #[3,by decide,rfl]
   ·exact .inl rfl
 |say k v t=>
  unfold AB;dsimp only;split
  ·exact .inr #[2,by decide,rfl]
  ·split
   ·exact .inr #[5,by decide,rfl]
   ·exact .inl rfl
 |bck k=>
  unfold AB;dsimp only;split
  ·exact .inr #[2,by decide,rfl]
  ·split
   ·exact .inr #[5,by decide,rfl]
   ·split
    ·exact .inr #[6,by decide,rfl]
    ·exact .inl rfl
 |edd k=>
  unfold AB;dsimp only;split
  ·exact .inr #[2,by decide,rfl]
  ·split
   ·exact .inr #[5,by decide,rfl]
   ·exact .inl rfl
 |drp k=>
  unfold AB;dsimp only;split
  ·exact .inr #[2,by decide,rfl]
  ·exact .inl rfl
section
variable {X:Cx}
def ZU(K:PySem.W.Frag):R2:=λx y H Q=>((x=.non/\y=.non)\/(∃z,x=.str z/\y=.str z)\/TN λa b q z=>Im (x=.ref a) (y=.ref b) (H a=some (.tup [.ref q,.str z])) (H b=some (.tup [.ref q,.str z])))/\Q (.bl true) H
theorem WQ(hu:X.A.units+9<cLine):Dy X (compareOp .Eq) (ZU X.K):=by
 exists 2;obtain⟨⟨rfl,rfl⟩|⟨z,rfl,rfl⟩|⟨a,b,q0,z,rfl,rfl,h1,h2⟩,q⟩:=h
 ·exact AH pins s σ H _ _ v u Q I rx ry #[rfl,by rw[decide_eq_true rfl];exact q]
 ·exact AH pins s σ H _ _ v u Q I rx ry #[rfl,by rw[decide_eq_true rfl];exact q]
 cases rx;cases ry;obtain⟨its,q1,pl,_⟩:=I.tuple (SqT.of h1);obtain⟨dD,q2,pl2,_⟩:=I.tuple (SqT.of h2);have l1:=q1.length;have l2:=q2.length;have l1':2=its.length:=l1;have l2':2=dD.length:=l2;refine SeqAt.RcAt.tuples (e:=λ_=>true) pl pl2 %[|0] (λj j1 j2=>?_) _ _ _ _ ?_
 ·have j1':j<its.length:=by simpa using j1
  have j2':j<dD.length:=by simpa using j2
  have gL:([V.ref q0,.str z])[j]? = some [V.ref q0,.str z][j]:=List.getElem?_eq_getElem (by show j<2;omega);obtain⟨u1,e1,ru1⟩:=q1.get gL;obtain⟨u2,e2,ru2⟩:=q2.get gL
  have jK:its.toArray[j]=u1:=by
   have:=List.getElem?_eq_getElem j1';rw[this]at e1
   simpa using zAH e1
  have fD:dD.toArray[j]=u2:=by
   have:=List.getElem?_eq_getElem j2';rw[this]at e2
   simpa using zAH e2
  rw[jK,fD];rcases (show j=0\/j=1 by omega)with rfl|rfl
  ·cases ru1;cases ru2;exact zB0 _
  ·obtain⟨t1,rfl⟩:=(show RelV (.str z) u1 from ru1);obtain⟨t2,rfl⟩:=(show RelV (.str z) u2 from ru2);have:=zDJ (A:=X.A.in1) (s:=s) z t1 z t2;rw[beq_self_eq_true]at this;exact this
 ·rw[DY,Bool.true_and,show (its.toArray.size == dD.toArray.size)=true by simp;omega];exact#[.bl true,H,I,rfl,q]
end
structure TOk(room:List Int)(n:Nat)(w:Ta):Prop where
 rl:Cc w.rule
 ln:w.lefts.length=w.ents.length+1
 en:w.ents.length<=n
 rm:w.room=room
 sb:∀l∈w.lefts,l.Sublist room
structure TsOk(room:List Int)(n:Nat)(ts:List (Str×Ta)):Prop where
 ln:ts.length<=n
 w:∀p∈ts,TOk room n p.2
theorem TOk.mono{room:List Int}{n n':Nat}{w:Ta}(h:TOk room n w)(hn:n<=n'):TOk room n' w:=#[h.rl,h.ln,zAC h.en hn,h.rm,h.sb]
theorem JR{room:List Int}{n:Nat}{ts:List (Str×Ta)}{k:Str}{w:Ta}(h:TsOk room n ts)(hw:TOk room (n+1) w):TsOk room (n+1) (EL ts k w):=by
 refine#[by unfold EL;rw[List.length_map];exact Nat.le_succ_of_le h.ln,λp hp=>?_];obtain⟨q,hq,e⟩:=List.mem_map.mp hp;by_cases c:q.1=k
 ·rw[if_pos c]at e;rw[<-e];exact hw
 ·rw[if_neg c]at e;rw[<-e];exact (h.w q hq).mono (zBA n)
theorem Pw(h:TsOk room n ts)(hw:TOk room (n+1) p.2):TsOk room (n+1) (ts++[p]):=by
 refine#[by rw[zA];exact Nat.succ_le_succ h.ln,λq hq=>?_];rcases List.mem_append.mp hq with hq|hq
 ·exact (h.w q hq).mono (zBA n)
 ·rw[List.mem_singleton.mp hq];exact hw
theorem TsOk.mono(h:TsOk room n ts)(hn:n<=n'):TsOk room n' ts:=#[zAC h.ln hn,λp hp=>(h.w p hp).mono hn]
theorem QR:(C1 room sides).Sublist room:=zAM
theorem Mq{room:List Int}{n:Nat}{w:Ta}(h:TOk room n w):w.held.Sublist room:=by
 have hl:w.lefts≠[]:=λz=>by have:=h.ln;rw[z]at this;simp at this
 exact h.sb _ (Do hl)
theorem Yp{room:List Int}{n:Nat}{w:Ta}{v:V}{t:Tr}{z:Str}(h:TOk room n w):TOk room (n+1) (GA w v t z):=by
 refine#[h.rl,?_,?_,h.rm,λl hl=>?_]
 ·show (w.lefts++[_]).length=(w.ents++[_]).length+1;rw[zA,zA,h.ln];rfl
 ·show (w.ents++[_]).length<=n+1;rw[zA];exact Nat.succ_le_succ h.en
 ·rcases List.mem_append.mp (show l∈w.lefts++[C5 z w.held (%[|15] w.room)] from hl)with hl|hl
  ·exact h.sb l hl
  ·rw[List.mem_singleton.mp hl,h.rm,OH (Mq h)];exact (Rp _ _ _).trans (Mq h)
theorem WX{room:List Int}{n:Nat}{w:Ta}(h:TOk room n w)(hn:w.ents≠[]):TOk room (n+1) (DB w):=by
 have h0:w.ents.length≠0:=λz=>hn (List.length_eq_zero_iff.mp z)
 refine#[h.rl,?_,?_,h.rm,λl hl=>h.sb l (List.dropLast_subset _ hl)]
 ·show w.lefts.dropLast.length=w.ents.dropLast.length+1;rw[zBR,zBR];have:=h.ln;omega
 ·show w.ents.dropLast.length<=n+1;rw[zBR];have:=h.en;omega
theorem WK(h:TsOk room n ts)(hD:D.Ok m G):TsOk room (n+1) (AB m room marks ts D).ts:=by
 have h':=h.mono (zBA n)
 cases D with
 |lrn i k=>
  unfold AB;dsimp only;split
  ·exact h'
  ·split<;>exact h'
 |beg nm kd rl v t=>
  unfold AB;dsimp only;split
  ·exact h'
  ·split
   ·exact h'
   ·refine Pw h #[hD.2.2.1,rfl,zA5 _,rfl,λl hl=>?_];rw[List.mem_singleton.mp hl];exact QR
 |frk k nm=>
  unfold AB;dsimp only;split
  ·exact h'
  ·rename_i w e;split
   ·exact h'
   ·exact Pw h ((h.w _ (CU e)).mono (zBA n))
 |say k v t=>
  unfold AB;dsimp only;split
  ·exact h'
  ·rename_i w e;split
   ·exact h'
   ·exact JR h (Yp (h.w _ (CU e)))
 |bck k=>
  unfold AB;dsimp only;split
  ·exact h'
  ·rename_i w e;split
   ·exact h'
   ·split
    ·exact h'
    ·rename_i x ex;exact JR h (WX (h.w _ (CU e)) λz=>by rw[z]at ex;cases ex)
 |edd k=>
  unfold AB;dsimp only;split
  ·exact h'
  ·rename_i w e;split
   ·exact h'
   ·have:=h.w _ (CU e);exact JR h #[this.rl,this.ln,Nat.le_succ_of_le this.en,this.rm,this.sb]
 |drp k=>
  unfold AB;dsimp only;split
  ·exact h'
  ·exact#[zAC (zAV _ _) h'.ln,λp hp=>h'.w p (List.mem_filter.mp hp).1]
theorem TOk.wok{room:List Int}{n:Nat}{w:Ta}(h:TOk room n w)(hr:room.length<=32):bU room w:=by
 have hl:w.lefts≠[]:=λz=>by have:=h.ln;rw[z]at this;simp at this
 refine#[hl,λl h2=>zAC (h.sb l h2).length_le %[|0],λs hs=>?_,h.rl];have:s.length<=w.room.length:=(F7 (z:=w.kind) (t:=w.t) hs).length_le;rw[h.rm]at this;omega
theorem A0E.wide2(s:A0B (A1 M H) (A1 M' H'))(sub:∀b∈M,b∈M')(ha:H' a=H a)(hg:H' U.gv=H U.gv)(hl:H' U.lf=H U.lf)(h:%[|30]):A0E M' C H' a U W:=
 #[ha.trans h.ob,hg.trans h.gv,hl.trans h.lf,sub _ h.ma,sub _ h.mg,sub _ h.ml,h.ne,s _ _ h.room,h.tr.keep (TS.same s),s _ _ h.pt,h.sd.keep s,h.en.keep s,h.lr.keep s,h.wr,h.wl,h.ln,h.l9,h.e9,h.tok,h.m5,h.tsz,h.kd,h.ns,h.rl]
theorem A0C.aside2(s:A0B (A1 M H) (A1 M' H'))(sub:∀b∈M,b∈M')(fr:∀b∈M',H' b≠none)(e:∀c∈BT S,H' c=H c)(h:%[|21]):A0C M' C cK H' S:=by
 have hx:=h.h;refine#[#[(e _ (by simp[BT])).trans hx.ob,(e _ (by simp[BT])).trans hx.ln,sub _ hx.mx,sub _ hx.ml,s _ _ hx.sp,s _ _ hx.mkm,hx.len,hx.m1,hx.m5,hx.wr,hx.ne,hx.l9],(e _ (by simp[BT])).trans h.tk,sub _ h.mt,λp hp=>#[?_,(h.tt p hp).2],h.nl,h.na,h.aa,fr,h.tl];have hm:∀c∈[p.a,p.u.gv,p.u.lf],c∈BT S:=λc hc=>List.mem_cons_of_mem _ %[(List.mem_cons_of_mem _ (List.mem_flatMap.mpr #[p,hp,hc]))|116]
 exact (h.tt p hp).1.wide2 s sub (e _ (hm _ %[|1])) (e _ (hm _ %[|1])) (e _ (hm _ %[|1]))
theorem A0T.wide2(s:A0B (A1 M H) (A1 M' H'))(sub:∀b∈M,b∈M')(h1:H' p.d=H p.d)(h2:H' p.sa=H p.sa)(h3:H' p.hl=H p.hl)(h:A0T M H p):A0T M' H' p:=
 #[h1.trans h.ob,h2.trans h.sa,h3.trans h.hl,sub _ h.md,sub _ h.ms,sub _ h.mh,s _ _ h.sd,h.sr.keep s,h.tr.keep (TS.same s),h.en.keep s,h.lr.keep s]
theorem ModT.aside2(s:A0B (A1 M H) (A1 M' H'))(sub:∀b∈M,b∈M')(e:∀c∈Bx Z,H' c=H c)(h:ModT M H Z):ModT M' H' Z:=by
 have m0:∀{c},c∈Gc Z.ts->c∈Bx Z:=λhc=>List.mem_cons_of_mem _ %[(List.mem_cons_of_mem _ hc)|116]
 refine#[(e _ (by simp[Bx])).trans h.ob,(e _ (by simp[Bx])).trans h.tl,(e _ (by simp[Bx])).trans h.ln,sub _ h.ms,sub _ h.mt,sub _ h.ml,s _ _ h.r,s _ _ h.mkm,λp hp=>?_,h.nd,h.na];obtain⟨a1,a2,a3⟩:=B7 hp;exact (h.tt p hp).wide2 s sub (e _ (m0 a1)) (e _ (m0 a2)) (e _ (m0 a3))
theorem W7(h:ModT M H Z):∀c∈Bx Z,c∈M:=λc hc=>by
 exists 6
 ·exact h.ms
 exists 6
 ·exact h.mt
 exists 6
 ·exact h.ml
 obtain⟨p,hp,hc⟩:=List.mem_flatMap.mp hc;have t:=h.tt p hp;exists 10;rcases hc with rfl|rfl|rfl
 ·exact t.md
 ·exact t.ms
 ·exact t.mh
structure A0O(C cK:Addr)(M:%[|3])(H:Hp)(S:HSt)(Z:Mz)(n:Nat):Prop where
 h:%[|21]
 z:ModT M H Z
 y:Yg S Z
 d:∀c∈BT S,c∉Bx Z
 t:TsOk S.room n (EH S.ts)
 ls:S.ls.length<=n+1
 sl:Cd λ(l:List V)(z:Str)=>S.ls=l++[.str z]/\∀v∈S.ls,∃z,v=V.str z
theorem A0O.keep(s:A0B H H')(b:%[|69]):A0O C cK M H' S Z n:=#[b.h.keep s,b.z.keep s,b.y,b.d,b.t,b.ls,b.sl]
theorem A0O.txt(b:%[|69]):∀v∈S.ls,∃z,v=V.str z:=by
 obtain⟨_,_,_,h⟩:=b.sl;exact h
theorem A0O.zok(b:%[|69])(hn:n<890):be Z:=by
 have hx:=b.h.h
 have lz:Z.ts.length=S.ts.length:=by
  have:=congrArg List.length b.y.ts;unfold BS EH at this
  rwa [List.length_map,List.length_map]at this
 have lt:=b.t.ln;unfold EH at lt;rw[List.length_map]at lt;have ll:=b.ls;refine#[by rw[b.y.marks,b.y.m];exact hx.len,by rw[b.y.m];exact hx.m1,by rw[b.y.m];exact hx.m5,by rw[b.y.room];exact hx.wr,by omega,by rw[b.y.ls];omega,λp hp=>?_];have hm:(p.nm,p.w)∈EH S.ts:=by rw[<-b.y.ts];exact List.mem_map.mpr #[p,hp,rfl]
 have ok:=b.t.w _ hm;rw[b.y.room];exact#[ok.wok hx.wr.len,by have:p.w.ents.length<=n:=ok.en;omega,ok.ln,ok.rm,ok.sb]
theorem A0O.step(y:Yg S Z)(D:Dd):%[|37] (BS Z.ts) D=Be S D:=by
 unfold Be;rw[y.m,y.room,y.marks,y.ts]
structure Half(C cK:Addr)(M:%[|3])(H:Hp)(S:HSt)(Z Z':Mz)(o:PZ)(n:Nat):Prop where
 h:%[|21]
 z:ModT M H Z'
 y:Yg S Z
 st:Z'.st=Z.st
 m:Z'.m=Z.m
 room:Z'.room=Z.room
 marks:Z'.marks=o.marks
 ts:BS Z'.ts=o.ts
 ls:Z'.ls=Z.ls++o.line.toList.map V.str
 d:∀c∈BT S,c∉Bx Z'
 t:TsOk S.room n (EH S.ts)
 hl:S.ls.length<=n+1
 sl:Cd λ(l:List V)(z:Str)=>S.ls=l++[.str z]/\∀v∈S.ls,∃z,v=V.str z
theorem A0O.half(b:%[|69])(g:MGo M H Z (%[|37] (BS Z.ts) D) M' H' Z'):Half C cK M' H' S Z Z' (Be S D) n:=by
 rw[A0O.step b.y]at g;have eh:∀c∈BT S,H' c=H c:=λc hc=>g.out c (EM b.h c hc) (b.d c hc)
 refine#[b.h.aside2 g.s g.sub g.fr eh,g.z,b.y,g.st,g.m,g.room,g.marks,g.ts,g.ls,λc hc hz=>?_,b.t,b.ls,b.sl];rcases g.nw c hz with q|q
 ·exact b.d c hc q
 ·exact b.h.fr c (EM b.h c hc) q
theorem Half.hok(b:Half C cK M H S Z Z' o n)(hn:n<890):ZZ S:=by
 have lt:=b.t.ln;unfold EH at lt;rw[List.length_map]at lt;have ll:=b.hl;refine#[by omega,by omega,λp hp=>?_];have ok:=b.t.w (p.nm,p.w) (List.mem_map.mpr #[p,hp,rfl]);exact#[by have:p.w.ents.length<=n:=ok.en;omega,ok.ln]
theorem VV(o:Option Str):(o.toList.map V.str).length<=1:=by cases o<;>simp
theorem Half.both(b:Half C cK M H S Z Z' (Be S D) n)(hD:D.Ok S.m G)(g:HGo C cK M H S (Be S D) M' H' S'):A0O C cK M' H' S' Z' (n+1):=by
 have ez:∀c∈Bx Z',H' c=H c:=λc hc=>g.out c (W7 b.z c hc) λz=>b.d c z hc
 refine#[g.h,b.z.aside2 g.s g.sub ez,#[?_,?_,?_,?_,?_],λc hc hz=>?_,?_,?_,?_]
 ·rw[b.m,g.m,b.y.m]
 ·rw[b.room,g.room,b.y.room]
 ·rw[b.marks,g.marks]
 ·rw[b.ls,g.ls,b.y.ls]
 ·rw[b.ts,g.ts]
 ·rcases g.nw c hc with q|q
  ·exact b.d c q hz
  ·exact b.z.full c hz q
 ·rw[g.room,g.ts];exact WK b.t hD
 ·rw[g.ls,zA];have:=VV (Be S D).line;have:=b.hl;omega
 ·obtain⟨l,z,e,hz⟩:=b.sl;rw[g.ls]
  cases (Be S D).line with
  |none=>exact#[l,z,by rw[e];simp,λv hv=>hz v (by simpa using hv)]
  | some y=>exact#[S.ls,y,rfl,λv hv=>by
    rcases List.mem_append.mp hv with h|h
    ·exact hz v h
    ·exact#[y,by simpa using h]]
theorem Zj(h:%[|21])(e:H r=some (.tup ys)):r∉BT S:=λhr=>by
 rcases List.mem_cons.mp hr with rfl|hr
 ·rw[h.h.ob]at e;cases e
 rcases List.mem_cons.mp hr with rfl|hr
 ·rw[h.h.ln]at e;cases e
 rcases List.mem_cons.mp hr with rfl|hr
 ·rw[h.tk]at e;cases e
 obtain⟨p,hp,hc⟩:=List.mem_flatMap.mp hr;have t:=(h.tt p hp).1;exists 10;rcases hc with rfl|rfl|rfl
 ·rw[t.ob]at e;cases e
 ·rw[t.gv]at e;cases e
 ·rw[t.lf]at e;cases e
theorem HGo.tup{C cK:Addr}{M M':%[|3]}{H H':Hp}{S S':HSt}{o:PZ}(g:HGo C cK M H S o M' H' S')(h:%[|21]){r:Addr}{ys:List V}(e:H r=some (.tup ys)):H' r=some (.tup ys):=by
 by_cases c:r∈M
 ·rw[g.out r c (Zj h e)];exact e
 ·exact (Bc (g.s _ _ (AW e c))).1
theorem HGo.told{C cK:Addr}{M M':%[|3]}{H H':Hp}{S S':HSt}{o:PZ}(g:HGo C cK M H S o M' H' S')(h:%[|21]){T:Told}{x:V}(e:T.At H x):T.At H' x:=by
 cases T with
 |non=>exact e
 |wd z=>exact e
 |pr v z=>
  obtain⟨p,q,e1,e2,hp⟩:=e;exact#[p,q,e1,e2,g.tup h hp]
theorem A0C.poke(h:%[|21])(hm:hd∈M)(hn:hd∉BT S):A0C M C cK (upd H hd o) S:=by
 refine h.aside (But.upd hm) (λc hc=>?_) (λc hc=>Af λe=>hn (by rw[<-e];exact hc));by_cases e:c=hd
 ·rw[e,A0A];intro z;cases z
 ·rw[Af e];exact hc
theorem SC{st r mk tl ln:Addr}(h:%[|21])(em:S.m=m)(er:S.room=AY m ts)(ek:S.marks=List.replicate m none)(el:S.ls=[.str (BQ m ts)])(et:S.ts=[])(s:A0B H H')(st0:H st=none)(r0:H r=none)(mk0:H mk=none)(tl0:H tl=none)(jW:H ln=none)(eG:H' st=some (.dK (dS (Ip (Iq st r mk tl ln m ts)))))(hr:AK H' r (AY m ts))(d9:H' mk=some %[|77])(ir:H' tl=some %[|9])(fw:H' ln=some (.lst [.str (BQ m ts)])):
  A0O C cK (st::tl::ln::M) H' S (Iq st r mk tl ln m ts) 0:=by
 have hx:=h.h;have dZ:1<=m:=by rw[<-em];exact hx.m1
 have dB:AY m ts≠[]:=λz=>hx.ne (by rw[er,z];rfl)
 have gC:H' r=some (.lst ((AY m ts).map V.int)):=hr;have a1:st≠tl:=AV eG ir %[|11];have a2:st≠ln:=AV eG fw %[|11];have a3:tl≠ln:=AV ir fw %[|11];have a4:r≠st:=AV gC eG %[|11]
 have a5:r≠tl:=λe=>by
  rw[e,ir]at gC;have h2:=zAH gC;injection h2 with h2
  exact dB (List.map_eq_nil_iff.mp h2.symm)
 have a6:r≠ln:=λe=>by
  rw[e,fw]at gC;have h2:=zAH gC;injection h2 with h2
  cases hr0:AY m ts with
  |nil=>exact dB hr0
  |cons k0 _=>rw[hr0]at h2;injection h2 with h2;cases h2
 have a7:mk≠st:=AV d9 eG %[|11]
 have a8:mk≠tl:=λe=>by
  rw[e,ir]at d9;have h2:=zAH d9;injection h2 with h2
  match m,dZ,h2 with
  |k+1,_,h2=>rw[zBF]at h2;cases h2
 have a9:mk≠ln:=λe=>by
  rw[e,fw]at d9;have h2:=zAH d9;injection h2 with h2
  match m,dZ,h2 with
  |k+1,_,h2=>rw[zBF]at h2;injection h2 with h2;cases h2
 have off:∀{b:Addr},H b=none->b≠st->b≠tl->b≠ln->b∉st::tl::ln::M:=λh0 n1 n2 n3 z=>by
  rcases List.mem_cons.mp z with q|z
  ·exact n1 q
  rcases List.mem_cons.mp z with q|z
  ·exact n2 q
  rcases List.mem_cons.mp z with q|z
  ·exact n3 q
  exact h.fr _ z h0
 have hN:∀b∈[st,tl,ln],H b=none:=Ca st0 tl0 jW;have sub:∀b∈M,b∈st::tl::ln::M:=λb hb=>zAE [st,tl,ln] hb
 have fr:∀b∈st::tl::ln::M,H' b≠none:=λb hb=>by
  rcases List.mem_append.mp (show b∈[st,tl,ln]++M from hb)with q|q
  ·simp only[zAD,zAB,or_false]at q;rcases q with rfl|rfl|rfl
   ·rw[eG];intro z;cases z
   ·rw[ir];intro z;cases z
   ·rw[fw];intro z;cases z
  ·exactλz=>h.fr b q (s.free z)
 refine#[h.aside2 (C0 (N:=[st,tl,ln]) s hN) sub fr (λc hc=>FH s (h.fr c (EM h c hc))),#[eG,ir,fw,by simp[Iq],by simp[Iq],by simp[Iq],AW hr (off r0 a4 a5 a6),AW (d9.trans (by show some (HO.lst _)=some (HO.lst ((List.replicate m none).map CA));rw[List.map_replicate];rfl)) (off mk0 a7 a8 a9),(λp hp=>nomatch hp),?_,zBI],#[em.symm,er.symm,ek.symm,el.symm,by rw[et];rfl],λc hc hz=>?_,#[by rw[et];exact zAA 0,λp hp=>by rw[et]at hp;cases hp],by rw[el];exact zAA 1,#[[],BQ m ts,el,λv hv=>#[BQ m ts,by rw[el]at hv;simpa using hv]]]
 ·show[st,tl,ln].Nodup;simp[a1,a2,a3]
 ·have:c∈[st,tl,ln]:=hz;exact h.fr c (EM h c hc) (hN c this)
abbrev A0S(H:Hp)(many:Nat):List V->List Tr->Prop:=Paired λ(v:V)(t:Tr)=>t.At H v/\t.ok many/\t.size<=20
theorem A0S.keep{H H':Hp}{many:Nat}(s:TS H H'):∀{xs:List V}{ts:List Tr},A0S H many xs ts->A0S H' many xs ts
 |_,_,.nil=>.nil
 |_,_,.cons ⟨h,o,z⟩ q=>.cons #[h.keep s,o,z] (A0S.keep s q)
theorem A0S.get{H:Hp}{many:Nat}:∀{xs:List V}{ts:List Tr}{i:Nat},A0S H many xs ts->i<xs.length->Cd λ(v:V)(t:Tr)=>Im (xs[i]? = some v) (t.At H v) (t.ok many) (t.size<=20)
 |_,_,0,.cons h _,_=>#[_,_,rfl,h.1,h.2.1,h.2.2]
 |_,_,i+1,.cons _ q,hi=>A0S.get (i:=i) q (zC3 hi)
inductive LZ(K:PySem.W.Frag)(vs:List V)(H:Hp)(Q:VK)(E:XK):Prop|mk(n:Int)(fr:Addr)(many:Nat)(xs:List V)(ts:List Tr)(_:vs=[.int n,.ref fr,.int many])(_:0<=n)(_:1<=many)(_:many<=5)(_:H fr=some %[|12])(_:A0S H many xs ts)(_:xs≠[])(_:xs.length<=900)(_:∀(v:V)(t:Tr)(H':Hp),A0B H H'->t.At H' v->t.ok many->t.size<=21->(1<n%6->t.size<=20)->Q v H')
section
def Tn:=Au OR ["_law_n","_law_fresh","_law_many"] 3
theorem Re(de:%[|5]):%[|8] "_law_asked" BC 2 (LZ K):=by
 refine de.h14.ok Tn ?_;rintro bz f dm A outer s H _ Q E hr ⟨n,fr,many,xs,ts,rfl,hn,dZ,dR,eP,hF,dB,hl,q⟩;have hp:0<xs.length:=List.length_pos_iff.mpr dB
 refine#[_,Aa (Aq (AM AH (Ap A4 (pv 0) Ad) Ad)
   (AX (Am Ay (pv 1) (Ap A4 %[|55] (%[|67] (AI (pv 1))))))
   Ah)
  (Aa (Aq (AM AH (Ap A4 (pv 0) Ad) Ad)
   (AX (Bj (AN Ae (Am Ay (pv 1) (Ap A4 %[|55] (%[|67] (AI (pv 1))))))))
   Ah)
  (AX (Ax (Fo de) hr Al (Ag %[|55] (AN Ad (pv 2)))))),?_]
 have e0:=zA1 (n / 6) (show (xs.length:Int)≠0 by omega);have e1:=zA3 (n / 6) (show (0:Int)<xs.length by omega);obtain⟨v,t,hv,ha,hok,hsz⟩:=A0S.get hF (i:=(n / 6%(xs.length:Int)).toNat) %[|0]
 have dN:DR xs (n / 6%(xs.length:Int))=some v:=by
  have e:n / 6%(xs.length:Int)=(((n / 6%(xs.length:Int)).toNat:Nat):Int):=by omega
  rw[e];exact Ac hv
 refine#[(by show (0:Int)<6;decide),rfl,?_];exists 12
 ·have c':n%6=0:=by
   have c2:=of_decide_eq_true c;injection c2
  refine#[%[|43],.inl (SqL.of eP),(by show (0:Int)<((xs.length:Nat):Int);omega),SqL.of eP,dN,?_];exact q v t H (A0B.refl _) ha hok %[|0] (λz=>by omega)
 refine#[(by show (0:Int)<6;decide),rfl,?_];exists 12
 ·have c':n%6=1:=by
   have c2:=of_decide_eq_true c;injection c2
  refine#[%[|43],.inl (SqL.of eP),(by show (0:Int)<((xs.length:Nat):Int);omega),SqL.of eP,dN,C4,λp hp0=>?_];have s2:=Ab hp0 (.tup [.str "not",v]);exact q (.ref p) (.nt t) _ s2 #[p,v,rfl,A0A,ha.keep (TS.same s2)] hok (by show t.size+1<=21;omega) (λz=>by omega)
 ·refine#[%[|43],n / 6,6,many,rfl,by omega,by decide,by decide,dZ,dR,λv t H' s' ha' hok' hsz'=>?_];exact q v t H' s' ha' hok' %[|0] (λ_=>by omega)
end
inductive P0(K:PySem.W.Frag)(vs:List V)(H:Hp)(Q:VK)(E:XK):Prop|mk(a:Addr)(ns:List Int)(st n:Int)(_:vs=[.ref a,.int st,.int n])(_:SqL K H a %[|28])(_:ns.length<=63)(_:0<=st)(_:st<=100)(_:∀(m:Int),0<=m->m<=200->Q (.int m) H)
section
def Wd:=Au SI ["_law_script","_law_start","_law_n"] 3
theorem Sx(de:%[|5]):%[|8] "_law_last" BC 1 (P0 K):=by
 refine de.h11.ok Wd ?_;rintro bz f dm A outer s H _ Q E hr ⟨a,ns,st,n,rfl,hS,h63,h0,h1,q⟩
 refine#[_,Aa (Aq (AM IC (%[|67] (AI (pv 0))) (pv 1))
   (AX (%[|67] (AI (pv 0))))
   Ah)
  (AX (Ap C2 (pv 1) (Ap A4 (pv 2) Ad))),?_]
 have hl:%[|28].length=ns.length:=List.length_map _;refine#[.inl hS,?_];exists 12
 ·exact#[.inl hS,q _ %[|0] (by rw[hl];omega)]
 ·have e0:=zA1 n (show (6:Int)≠0 by decide);have e1:=zA3 n (show (0:Int)<6 by decide);exact#[(by show (0:Int)<6;decide),q _ %[|0] %[|0]]
end
theorem Kq{zs:List Str}{k:Int}(hl:zs.length=3)(h0:0<=k)(h3:k<3):∃z∈zs,DR (zs.map V.str) k=some (.str z):=by
 have hk:k.toNat<zs.length:=by omega
 refine#[zs[k.toNat],zCM hk,?_];have e:k=((k.toNat:Nat):Int):=by omega
 have h:DR (zs.map V.str) ((k.toNat:Nat):Int)=some (.str zs[k.toNat]):=Ac (by rw[List.getElem?_map,List.getElem?_eq_getElem hk];rfl);rw[<-e]at h;exact h
theorem Wp(h0:0<=k)(h3:k<3):∃z,BK z/\DR [V.str "true",.str "false",.str "doubt"] k=some (.str z):=by
 exists 25
 ·exact#["true",.inl rfl,Ac (j:=0) rfl]
 ·exact#["false",.inr (.inl rfl),Ac (j:=1) rfl]
 ·exact#["doubt",.inr (.inr rfl),Ac (j:=2) rfl]
theorem VW(h0:0<=k)(h3:k<2):∃z,Cc z/\DR [V.str "elder",.str "newer"] k=some (.str z):=by
 rcases (show k=((0:Nat):Int)\/k=((1:Nat):Int) by omega)with rfl|rfl
 ·exact#["elder",.inl rfl,Ac (j:=0) rfl]
 ·exact#["newer",.inr rfl,Ac (j:=1) rfl]
theorem W3(h0:0<=k)(h3:k<3):∃z:%[|17],DR [V.non,.bl false,.bl true] k=some (CA z):=by
 exists 25
 ·exact#[none,Ac (j:=0) rfl]
 ·exact#[some false,Ac (j:=1) rfl]
 ·exact#[some true,Ac (j:=2) rfl]
theorem Zk(h0:0<=k)(h3:k<3)(n:Str):Cd λ(z:Str)(D:Dd)=>BV (D.tup=[.str z,.str n]) (∀m G,A0H n->D.Ok m G) (DR [V.str "back",.str "end",.str "drop"] k=some (.str z)):=by
 exists 25
 ·exact#["back",.bck n,rfl,λ_ _ h=>h,Ac (j:=0) rfl]
 ·exact#["end",.edd n,rfl,λ_ _ h=>h,Ac (j:=1) rfl]
 ·exact#["drop",.drp n,rfl,λ_ _ h=>h,Ac (j:=2) rfl]
theorem Dd.Ok.keep{m:Nat}{H H':Hp}(s:TS H H'){D:Dd}(h:D.Ok m H):D.Ok m H':=by
 cases D with
 |beg n kd rl v t=>exact#[h.1,h.2.1,h.2.2.1,h.2.2.2.1.keep s,h.2.2.2.2]
 |say k v t=>exact#[h.1,h.2.1.keep s,h.2.2]
 |lrn i k=>exact h
 |frk k n=>exact h
 |bck k=>exact h
 |edd k=>exact h
 |drp k=>exact h
abbrev A0Z(H:Hp)(m:Nat):List V->List Dd->Prop:=Paired λ(v:V)(D:Dd)=>∃r,BV (v=.ref r) (H r=some (.tup D.tup)) (D.Ok m H)
theorem A0Z.keep{H H':Hp}{m:Nat}(s:TS H H'):∀{xs:List V}{Ds:List Dd},A0Z H m xs Ds->A0Z H' m xs Ds
 |_,_,.nil=>.nil
 |_,_,.cons ⟨r,e,h,o⟩ q=>.cons #[r,e,s _ _ h,o.keep s] (A0Z.keep s q)
theorem A0Z.snoc{H:Hp}{m:Nat}{v:V}{D:Dd}(h:∃r,BV (v=.ref r) (H r=some (.tup D.tup)) (D.Ok m H)):∀{xs:List V}{Ds:List Dd},A0Z H m xs Ds->A0Z H m (xs++[v]) (Ds++[D])
 |_,_,.nil=>.cons h .nil
 |_,_,.cons x q=>.cons x (A0Z.snoc h q)
theorem A0S.snocH{H:Hp}{m:Nat}{v:V}{t:Tr}(h:t.At H v/\t.ok m/\t.size<=20):∀{xs:List V}{ts:List Tr},A0S H m xs ts->A0S H m (xs++[v]) (ts++[t])
 |_,_,.nil=>.cons h .nil
 |_,_,.cons x q=>.cons x (A0S.snocH h q)
inductive Ou(K:PySem.W.Frag)(vs:List V)(H:Hp)(Q:VK)(E:XK):Prop|mk(n:Int)(nl fr:Addr)(many:Nat)(zs:List Str)(xs:List V)(ts:List Tr)(_:vs=[.int n,.ref nl,.ref fr,.int many])(_:0<=n)(_:1<=many)(_:many<=5)(_:H nl=some (.lst (zs.map V.str)))(_:zs.length=3)(_:(∀z∈zs,A0H z))(_:H fr=some %[|12])(_:A0S H many xs ts)(_:xs≠[])(_:xs.length<=900)(_:∀(r:Addr)(D:Dd)(H':Hp),A0B H H'->H' r=some (.tup D.tup)->D.Ok many H'->Q (.ref r) H')
inductive LY(K:PySem.W.Frag)(vs:List V)(H:Hp)(Q:VK)(E:XK):Prop|mk(a:Addr)(ns:List Int)(many:Nat)(_:vs=[.ref a,.int many])(_:SqL K H a %[|28])(_:ns.length<=63)(_:1<=many)(_:many<=5)(_:∀(l:Addr)(xs:List V)(Ds:List Dd)(H':Hp),A0B H H'->H l=none->H' l=some %[|12]->A0Z H' many xs Ds->xs.length<=201->Q (.ref l) H')
section
def A1L:=Au Td ["_law_n","_law_names_here","_law_fresh","_law_many","_law_name_here","_law_way","_law_sentence_here","_law_kind"] 4
def A1B:=Au P4 ["_law_script","_law_many","_law_names_here","_law_fresh","_law_found","_law_last_here","_law_k","_law_deed_here"] 2
theorem T8(de:%[|5]):%[|8] "_law_deed" BC 3 (Ou K):=by
 refine de.h15.ok A1L ?_;rintro bz f dm A outer s H _ Q E hr ⟨n,nl,fr,many,zs,xs,ts,rfl,hn,dZ,dR,fq,hz3,hzg,eP,hF,dB,fW,q⟩
 refine#[_,Aa (AC 4 A1L.nd (Am Ay (pv 1) (Ap A4 (pv 0) Ad)))
  (Aa (AC 0 A1L.nd %[|55])
  (Aa (AC 5 A1L.nd (Ap A4 (pv 0) Ad))
  (Aa (AC 0 A1L.nd %[|55])
  (Aa (Aq (AM L8 (pv 5) Ad)
   (AX (Bj (Ag Ae (AN (Ap JN (Ap A4 (pv 0) (Ap C2 (Ap C2 (pv 3) Ad) (Ap A4 %[|55] Ad))) (Ap A4 %[|55] Ad)) (Am Ay (Av (Ag Cm (AN BN BN))) (Ap A4 %[|55] Ad))))))
   Ah)
  (Aa (AC 6 A1L.nd (Ax (Re de) hr Al (Ag %[|55] (AN (pv 2) (pv 3)))))
  (Aa (Aq (AM L8 (pv 5) Ad)
   (Aa (AC 7 A1L.nd (Am Ay (Av (Ag Ae (AN Ae Ae))) (Ap A4 (pv 0) Ad)))
   (AX (Bj (Ag Ae (Ag (pv 4) (Ag (pv 7) (AN (pv 6) (Am Ay (Av (AN Ae Ae)) (Ap A4 %[|55] Ad)))))))))
   Ah)
  (Aa (Aq (AM L8 (pv 5) Ad)
   (AX (Bj (Ag Ae (AN (pv 4) (pv 6)))))
   Ah)
  (Aa (Aq (AM AH (pv 5) Ad)
   (AX (Bj (Ag Ae (AN (pv 4) (Am Ay (pv 1) (Ap A4 (pv 0) Ad))))))
   Ah)
  (AX (Bj (AN (Am Ay (Av (Ag Ae (AN Ae Ae))) (Ap JN (pv 5) Ad)) (pv 4)))))))))))),?_]
 have p3:∀k:Int,0<=k%3/\k%3<3:=λk=>#[zA1 k %[|2],zA3 k %[|2]]
 have p2:∀k:Int,0<=k%2/\k%2<2:=λk=>#[zA1 k %[|2],zA3 k %[|2]]
 obtain⟨z,hzm,hza⟩:=Kq hz3 (p3 n).1 (p3 n).2;have hg:=hzg z hzm;refine#[(by show (0:Int)<3;decide),SqL.of fq,hza,?_];refine#[%[|43],?_];refine#[(by show (0:Int)<16;decide),?_];refine#[%[|43],?_];have hw0:0<=n / 3%16:=zA1 _ %[|2];have hw1:n / 3%16<16:=zA3 _ %[|2];have iw:0<=n / 3 / 16:=by omega
 exists 12
 ·obtain⟨mk,d9⟩:=W3 (p3 ((n / 3 / 16) / 7)).1 (p3 ((n / 3 / 16) / 7)).2;refine#[%[|43],(by show (0:Int)<2;decide),?_,%[|43],(by show (0:Int)<2;decide),ML,λL hL=>#[%[|43],(by show (0:Int)<3;decide),SqL.of A0A,d9,ML,λr hr=>?_]]
  ·have:=(p2 ((n / 3 / 16) / 97)).1;show (0:Int)<(many:Int)+1+(n / 3 / 16) / 97%2;omega
  ·exact q r (.lrn _ mk) _ ((Ab hL _).trans (Ab hr _)) A0A trivial
 refine#[%[|43],(n / 3 / 16) / 36,fr,many,xs,ts,rfl,by omega,dZ,dR,eP,hF,dB,fW,λv t H1 s1 ha hok hsz _=>?_];exists 12
 ·obtain⟨kd,hkd,hka⟩:=Wp (p3 (n / 3 / 16)).1 (p3 (n / 3 / 16)).2;obtain⟨rl,f8,hra⟩:=VW (p2 ((n / 3 / 16) / 3)).1 (p2 ((n / 3 / 16) / 3)).2;refine#[ML,λL hL=>#[(by show (0:Int)<3;decide),SqL.of A0A,hka,?_]];refine#[C4,λL2 hL2=>#[%[|43],(by show (0:Int)<2;decide),SqL.of A0A,hra,SK,λr hr=>?_]];have s2:=(Ab hL (.lst [V.str "true",.str "false",.str "doubt"])).trans ((Ab hL2 (.lst [V.str "elder",.str "newer"])).trans (Ab hr (.tup (Dd.beg z kd rl v t).tup)));exact q r (.beg z kd rl v t) _ (s1.trans s2) A0A #[hg,hkd,f8,ha.keep (TS.same s2),hok,by omega]
 refine Cb (λc=>?_) (λc12=>?_)
 ·refine#[ML,λr hr=>?_];have s2:=Ab hr (.tup (Dd.say z v t).tup);exact q r (.say z v t) _ (s1.trans s2) A0A #[hg,ha.keep (TS.same s2),hok,by omega]
 refine#[rfl,Cb (λc=>?_) (λc=>?_)]
 ·obtain⟨z2,hzm2,hza2⟩:=Kq hz3 (p3 (n / 3 / 16)).1 (p3 (n / 3 / 16)).2;refine#[(by show (0:Int)<3;decide),SqL.of (s1 _ _ fq),hza2,ML,λr hr=>?_];exact q r (.frk z z2) _ (s1.trans (Ab hr _)) A0A #[hg,hzg z2 hzm2]
 ·have c12':¬n / 3%16<12:=λe=>c12 (decide_eq_true e)
  have c13:n / 3%16≠12:=λe=>c (decide_eq_true (by show V.int (n / 3%16)=_;rw[e]))
  obtain⟨ez,D,eD,hD,hea⟩:=Zk (k:=(n / 3%16)-13) %[|0] %[|0] z;refine#[ML,λL hL=>#[SqL.of A0A,hea,C4,λr hr=>?_]];exact q r D _ (s1.trans ((Ab hL _).trans (Ab hr _))) (by rw[eD];exact A0A) (hD _ _ hg)
theorem QL(de:%[|5]):%[|8] "_law_deeds" BC 4 (LY K):=by
 refine de.h16.ok A1B ?_;rintro bz f dm A outer s H _ Q E hr ⟨a,ns,many,rfl,hS,h63,dZ,dR,q⟩
 refine#[_,Aa (AC 2 A1B.nd (Ax (QD de) hr Al (AI (pv 0))))
  (Aa (AC 3 A1B.nd (Av (AI (Ax (Fo de) hr Al (Ag %[|74] (AN Ad (pv 1)))))))
  (Aa (AC 4 A1B.nd (Av (AI (Bj (Ag Ae (Ag (Am Ay (pv 2) Ad) (Ag Ae (AN (Am Ay (pv 3) Ad) Ae))))))))
  (Aa (Aq (AM AH (Ap A4 (Ap Fw %[|74] (Ap E4 Ad Ad)) Ad) Ad)
   (Ak (AC 4 A1B.nd (Av Bi)))
   Ah)
  (Aa (AC 5 A1B.nd (Ax (Sx de) hr Al (Ag (pv 0) (AN Ad (Ap Bf %[|74] Ad)))))
  (Aa (Aq (AM IC (pv 1) Ad)
   (Ak (AC 5 A1B.nd (AQ (Qj rfl) %[|10] de.zmin boot_min (AN (pv 5) Ad))))
   Ah)
  (Aa (BB zAR rfl (RA %[|10] de.B.range (AN Ad (pv 5))) (Bo 6 A1B.nd)
   (Aa (AC 7 A1B.nd (Ax (T8 de) hr Al (Ag (Ax (Cz de) hr Al (AN (pv 0) (pv 6))) (Ag (pv 2) (AN (pv 3) (pv 1))))))
   (Aa (Aq (Cp Ez (Am Ar (pv 7) Ad) (Av (AN Ae Ae)) %[|32])
    (Ak (As (A7 (pv 3) (AI (Ax (Fo de) hr Al (Ag (Ap Fw (Ax (Cz de) hr Al (AN (pv 0) (pv 6))) (Ap E4 Ad Ad)) (AN Ad (pv 1))))))))
    Ah)
   (Ak (As (A7 (pv 4) (AI (pv 7))))))))
  (AX (pv 4)))))))),?_]
 refine#[a,ns,rfl,hS,h63,λnl zs H1 s1 nl0 fq hz3 hznd hzg=>?_];refine#[a,ns,6,rfl,s1.seq hS,h63,by decide,by decide,λn0 H2 hn0 s2=>?_];refine#[n0,6,many,rfl,hn0,by decide,by decide,dZ,dR,λv t H3 s3 ha hok hsz=>?_];refine#[OP,λfr eP=>?_];have s4:=Ab eP (.lst [v]);have fr4:upd H3 fr (.lst [v]) fr=some (.lst [v]):=A0A;generalize upd H3 fr _=H4 at*;have u4:=s1.trans (s2.trans (s3.trans s4));have nl4:=s4 _ _ (s3 _ _ (s2 _ _ fq));have fr0:H fr=none:=(s1.trans (s2.trans s3)).free eP;obtain⟨z,hzm,hza⟩:=Kq (k:=0) hz3 %[|2] %[|2];refine#[SqL.of nl4,hza,SqL.of fr4,Ac (j:=0) rfl,SK,λr hr=>?_];have s5:=Ab hr (.tup (Dd.beg z "true" "elder" v t).tup);have r5:upd H4 r (.tup (Dd.beg z "true" "elder" v t).tup) r=some (.tup (Dd.beg z "true" "elder" v t).tup):=A0A;have et:[V.str "begin",.str z,.str "true",v,.str "elder"]=(Dd.beg z "true" "elder" v t).tup:=rfl;rw[et];generalize upd H4 r _=H5 at*;refine#[OP,λfo gT=>?_];have s6:=Ab gT (.lst [.ref r]);have fo6:upd H5 fo (.lst [.ref r]) fo=some (.lst [.ref r]):=A0A;generalize upd H5 fo _=H6 at*;have u6:=u4.trans (s5.trans s6);have nl6:=(s5.trans s6) _ _ nl4;have fr6:=(s5.trans s6) _ _ fr4;have fo0:H fo=none:=(u4.trans s5).free gT;have nff:fo≠fr:=λe=>by rw[e,s5 _ _ fr4]at gT;cases gT
 have nfn:fo≠nl:=λe=>by rw[e,s5 _ _ nl4]at gT;cases gT
 have nrn:fr≠nl:=λe=>by rw[e,s3 _ _ (s2 _ _ fq)]at eP;cases eP
 have ha6:t.At H6 v:=ha.keep (TS.same (s4.trans (s5.trans s6)));have hD6:(Dd.beg z "true" "elder" v t).Ok many H6:=#[hzg z hzm,.inl rfl,.inl rfl,ha6,hok,by omega];refine Da (λσ H'=>Fb λ(fo:Addr)(xs:List V)(Ds:List Dd)=>cp (σ=[some (.ref a),some (.int (many:Int)),some (.ref nl),some (.ref fr),some (.ref fo),none,none,none]) (A0B H6 H') (H fo=none) (fo≠fr) (fo≠nl) (H' fo=some %[|12]) (A0Z H' many xs Ds) (xs.length<=1)) ?_ (λnext=>?_)
 rotate_left
 ·refine#[a,ns,6,rfl,u6.seq hS,h63,by decide,by decide,λn1 H7 ji s7=>?_];refine#[%[|81],%[|43],(by show (0:Int)<4;decide),rfl,Cb (λc=>?_) (λc=>?_)]
  ·refine#[GD,λf2 hf2=>?_];exact next _ _ #[f2,[],[],rfl,s7.trans (Ab hf2 _),(u6.trans s7).free hf2,(λe=>by rw[e,s7 _ _ fr6]at hf2;cases hf2),(λe=>by rw[e,s7 _ _ nl6]at hf2;cases hf2),A0A,.nil,by simp]
  ·exact next _ _ #[fo,[.ref r],[_],rfl,s7,fo0,nff,nfn,s7 _ _ fo6,.cons #[r,rfl,s7 _ _ (s6 _ _ r5),hD6.keep (TS.same s7)] .nil,by simp]
 rintro σ H7 ⟨fo,xs7,Ds7,rfl,s7,fo0,nff,nfn,fo7,D7,l7⟩;have u7:=u6.trans s7;refine#[a,ns,0,rfl,u7.seq hS,h63,by decide,by decide,λn2 H8 iw s8=>?_];refine#[%[|43],a,ns,8,_,rfl,(u7.trans s8).seq hS,h63,by decide,by decide,λm gZ dU=>?_];refine Da (λσ H'=>∃last:Int,Im (0<=last) (last<=200) (σ=[some (.ref a),some (.int (many:Int)),some (.ref nl),some (.ref fr),some (.ref fo),some (.int last),none,none]) (H8=H')) ?_ (λnext=>?_)
 rotate_left
 ·refine Cb (λc=>?_) (λc=>?_)
  ·refine#[_,_,rfl,?_];refine next _ _ #[_,?_,?_,rfl,rfl]
   ·split<;>omega
   ·split<;>omega
  ·exact next _ _ #[m,gZ,dU,rfl,rfl]
 rintro σ _ ⟨last,gK,dG,rfl,rfl⟩;have u8:=u7.trans s8;have w8:=s7.trans s8;refine#[_,_,rfl,#[by omega,by omega,by omega,by omega],Bn (lo:=8) (n:=(last-8).toNat) (λi σ H5=>cU λ(v0 v1:Option V)(fs xs:List V)(kK:List Tr)(Ds:List Dd)=>ag (σ=[some (.ref a),some (.int (many:Int)),some (.ref nl),some (.ref fr),some (.ref fo),some (.int last),v0,v1]) (A0B H H5) (H5 nl=some (.lst (zs.map V.str))) (H5 fr=some (.lst fs)) (A0S H5 many fs kK) (fs≠[]) (fs.length<=1+i) (H5 fo=some %[|12]) (A0Z H5 many xs Ds) (xs.length<=1+i)) ?_ ?_ ?_]
 ·exact#[_,_,[v],xs7,[t],Ds7,rfl,u8,w8 _ _ nl6,w8 _ _ fr6,.cons #[ha6.keep (TS.same w8),hok,by omega] .nil,by simp,by simp,s8 _ _ fo7,D7.keep (TS.same s8),by omega]
 ·rintro i σ Hi hi ⟨v0,v1,fs,xs,kK,Ds,rfl,si,nli,fri,Fi,nei,li,foi,Di,xi⟩;have jh:i<200:=by omega
  have io:(8:Int)+(i:Int)<=1000:=by omega
  refine#[a,ns,_,rfl,si.seq hS,h63,by omega,io,λn5 H6' hn5 s6'=>?_];refine#[n5,nl,fr,many,zs,fs,kK,rfl,hn5,dZ,dR,s6' _ _ nli,hz3,hzg,s6' _ _ fri,Fi.keep (TS.same s6'),nei,by omega,λr D H7' s7' hr7 hD7=>?_];have k7:=s6'.trans s7';obtain⟨wd,hwd⟩:∃wd,D.tup[0]? = some (.str wd):=by cases D<;>exact#[_,rfl]
  refine Da (λσ H9=>Cd λ(fs:List V)(kK:List Tr)=>Wq (σ=[some (.ref a),some (.int (many:Int)),some (.ref nl),some (.ref fr),some (.ref fo),some (.int last),some (.int (8+(i:Int))),some (.ref r)]) (A0B H H9) (H9 nl=some (.lst (zs.map V.str))) (H9 fr=some (.lst fs)) (A0S H9 many fs kK) (fs≠[]) (fs.length<=1+(i+1)) (H9 fo=some %[|12]) (A0Z H9 many xs Ds) (H9 r=some (.tup D.tup)) (D.Ok many H9)) ?_ (λnext=>?_)
  ·rintro σ H9 ⟨fs9,fts9,rfl,s9,nl9,fr9,F9,ne9,l9,fo9,D9,r9,o9⟩;refine#[.inl #[rfl,_,SqL.of fo9],fo9,An %[|0],?_];have jw:TS H9 (upd H9 fo (.lst (xs++[.ref r]))):=TS.lst fo9;exact#[_,_,fs9,xs++[.ref r],fts9,Ds++[D],rfl,Ao s9 fo0 _,(Af nfn.symm).trans nl9,(Af nff.symm).trans fr9,F9.keep jw,ne9,l9,A0A,(D9.keep jw).snoc #[r,rfl,jw _ _ r9,o9.keep jw],by rw[zA];show xs.length+1<=_;omega]
  ·refine#[SqT.of hr7,Ac (j:=0) hwd,C4,λL hL=>?_];have s8':=Ab hL (.lst [V.str "say",.str "begin"]);refine#[L,_,rfl,.inl (SqL.of A0A),rfl,rfl,?_];generalize upd H7' L _=H8' at*;have k8:=k7.trans s8';have fr8:=k8 _ _ fri;have fo8:=k8 _ _ foi;exists 12
   ·refine#[.inl #[rfl,_,SqL.of fr8],a,ns,_,rfl,(si.trans k8).seq hS,h63,by omega,io,λn6 H9 hn6 s9=>?_];refine#[%[|81],%[|43],_,6,many,rfl,zCA hn6 %[|2],by decide,by decide,dZ,dR,λv9 t9 fV gp ha9 hok9 hsz9=>?_];have jY:=k8.trans (s9.trans gp);have fr10:=jY _ _ fri;refine#[fr10,An %[|0],?_];have jw:TS fV (upd fV fr (.lst (fs++[v9]))):=TS.lst fr10;have r10:=(s8'.trans (s9.trans gp)) _ _ hr7;have o10:=hD7.keep (TS.same (s8'.trans (s9.trans gp)));exact next _ _ #[fs++[v9],kK++[t9],rfl,Ao (si.trans jY) fr0 _,(Af nrn.symm).trans (jY _ _ nli),A0A,A0S.snocH #[ha9.keep jw,hok9,by omega] ((Fi.keep (TS.same jY)).keep jw),by simp,by rw[zA];show fs.length+1<=_;omega,(Af nff).trans (jY _ _ foi),(Di.keep (TS.same jY)).keep jw,jw _ _ r10,o10.keep jw]
   ·exact next _ _ #[fs,kK,rfl,si.trans k8,k8 _ _ nli,fr8,Fi.keep (TS.same k8),nei,by omega,fo8,Di.keep (TS.same k8),s8' _ _ hr7,hD7.keep (TS.same s8')]
 ·rintro σ Hi ⟨v0,v1,fs,xs,kK,Ds,rfl,si,nli,fri,Fi,nei,li,foi,Di,xi⟩;exact q fo xs Ds Hi si fo0 foi Di %[|0]
end
section
variable {X:Cx}
end
def A1F(M:%[|3])(H:Hp):Prop:=∀b∈M,∀ys,H b≠some (.tup ys)
theorem A1F.keep(s:A0B H H')(fr:∀b∈M,H b≠none)(h:A1F M H):A1F M H':=λb hb ys e=>by
 cases e2:H b with
 |none=>exact fr b hb e2
 |some o=>
  rw[s _ _ e2]at e;exact h b hb ys (by rw[e2,e])
theorem A1F.ts(h:A1F M H):TS H (A1 M H):=λp ys e=>AW e λz=>h p z ys e
theorem RX(m:Nat)(wd:Int):Dg (List.replicate m none) wd=true:=by
 unfold Dg;rw[zCG];intro b hb;rw[List.mem_mapIdx]at hb;obtain⟨i,hi,rfl⟩:=hb;rw[List.getElem_replicate];rfl
theorem Q9(s5:A0B H4 H5)(hx:H4 x=none)(tk4:H4 U.tk=none)(ln4:H4 U.ln=none)(gi:U.sp≠x)(nmkx:U.mks≠x)(dZ:1<=m)(dR:m<=5)(dB:AY m ts≠[])(hx5:H5 x=some (.ins C U.dx (De U m)))(jg:AK H5 U.sp (AY m ts))(gj:H5 U.mks=some %[|77])(ib:H5 U.tk=some (.dK []))(ie:H5 U.ln=some (.lst [.str (BQ m ts)])):
  A0C [x,U.ln,U.tk] C cK H5 #[x,U,m,AY m ts,List.replicate m none,[.str (BQ m ts)],[]]/\A0B H4 (A1 [x,U.ln,U.tk] H5)/\A1F [x,U.ln,U.tk] H5:=by
 have nsl:U.sp≠U.ln:=λe=>by
  have h1:H5 U.sp=some (.lst ((AY m ts).map V.int)):=jg;rw[e,ie]at h1;have h2:=zAH h1;injection h2 with h2
  cases hr0:AY m ts with
  |nil=>exact dB hr0
  |cons k0 _=>rw[hr0]at h2;injection h2 with h2;cases h2
 have nml:U.mks≠U.ln:=λe=>by
  rw[e,ie]at gj;have h2:=zAH gj;injection h2 with h2
  match m,dZ,h2 with
  |k+1,_,h2=>rw[zBF]at h2;injection h2 with h2;cases h2
 have nst:U.sp≠U.tk:=AV jg ib %[|11];have nmt:U.mks≠U.tk:=AV gj ib %[|11]
 have notN:∀{b:Addr},b≠x->b≠U.ln->b≠U.tk->b∉[x,U.ln,U.tk]:=λh1 h2 h3 hb=>by
  simp only[zAD,zAB,or_false]at hb;rcases hb with h|h|h
  ·exact h1 h
  ·exact h2 h
  ·exact h3 h
 have fne:(AY m ts).filter (Dg (List.replicate m none))≠[]:=by
  rw[List.filter_eq_self.mpr λwd _=>RX m wd];exact dB
 refine#[#[#[hx5,ie,by simp,by simp,AW jg (notN gi nsl nst),AW (by rw[gj,List.map_replicate];rfl) (notN nmkx nml nmt),zD,dZ,dR,GR dR ts,fne,by show 1<=900;decide],ib,by simp,(λp hp=>nomatch hp),by show[U.ln].Nodup;simp,zBI,zBI,λb hb=>?_,by show 0<=900;decide],λb o e=>AW (s5 _ _ e) λz=>?_,λb hb ys e=>?_]
 ·simp only[zAD,zAB,or_false]at hb;rcases hb with rfl|rfl|rfl
  ·rw[hx5];intro z;cases z
  ·rw[ie];intro z;cases z
  ·rw[ib];intro z;cases z
 ·simp only[zAD,zAB,or_false]at z;rcases z with rfl|rfl|rfl
  ·rw[hx]at e;cases e
  ·rw[ln4]at e;cases e
  ·rw[tk4]at e;cases e
 ·simp only[zAD,zAB,or_false]at hb;rcases hb with rfl|rfl|rfl
  ·rw[hx5]at e;cases e
  ·rw[ie]at e;cases e
  ·rw[ib]at e;cases e
structure Go2(C cK:Addr)(M:%[|3])(H:Hp)(S:HSt)(Z:Mz)(n:Nat)(M':%[|3])(H':Hp)(S':HSt)(Z':Mz):Prop where
 b:A0O C cK M' H' S' Z' (n+1)
 s:A0B (A1 M H) (A1 M' H')
 sub:∀b∈M,b∈M'
 out:∀c∈M,c∉BT S->c∉Bx Z->H' c=H c
 nw:∀c,c∈BT S'\/c∈Bx Z'->(c∈BT S\/c∈Bx Z)\/H c=none
 x:S'.x=S.x
 st:Z'.st=Z.st
 m:S'.m=S.m
theorem Go2.of(bb:%[|69])(g1:MGo M H Z o M1 Hm Z1)(g2:HGo C cK M1 Hm S o2 M2 Hh S2)(bn:A0O C cK M2 Hh S2 Z1 (n+1)):Go2 C cK M H S Z n M2 Hh S2 Z1:=by
 have same:∀c∈M,c∉Bx Z->Hm c=H c:=g1.out;refine#[bn,g1.s.trans g2.s,λb hb=>g2.sub b (g1.sub b hb),λc hc h1 h2=>(g2.out c (g1.sub c hc) h1).trans (g1.out c hc h2),λc hc=>?_,g2.x,g1.st,g2.m];rcases hc with hc|hc
 ·rcases g2.nw c hc with h|h
  ·exact .inl (.inl h)
  ·by_cases cm:c∈M
   ·exact absurd h (g1.fr c (g1.sub c cm))
   ·refine .inr ?_
    cases e:H c with
    |none=>rfl
    |some ob=>rw[(Bc (g1.s _ _ (AW e cm))).1]at h;cases h
 ·rcases g1.nw c hc with h|h
  ·exact .inl (.inr h)
  ·exact .inr h
inductive Hy(C cK:Addr)(vs:List V)(H:Hp)(Q:VK)(E:XK):Prop|mk(M:%[|3])(S:HSt)(Z:Mz)(n:Nat)(D:Dd)(da:Addr)(_:vs=[.ref S.x,.ref Z.st,.ref da])(_:A1 M H da=some (.tup D.tup))(_:%[|69])(_:n<890)(_:D.Ok S.m (A1 M H))(_:∀(M':%[|3])(H':Hp)(S':HSt)(Z':Mz),Go2 C cK M H S Z n M' H' S' Z'->Q (.bl true) H')
section
variable {j9:Nat->Addr}
def A1I:=Au IE ["_law_house","_law_state_here","_law_deed_here","_law_due_here","_law_done","_law_told"] 3
theorem Mm(de:%[|5]):%[|8] "_law_agrees" BC 28 (Hy cH cK):=by
 refine de.h77.ok A1I ?_;rintro bz f dm A outer s H _ Q E hr ⟨M,S,Z,n,D,da,rfl,hd,bb,hn,hD,q⟩
 refine#[_,Aa (AC 3 A1I.nd (Ax (Ks de) hr Al (AN (pv 1) (pv 2))))
  (Aa (AC 4 A1I.nd BN)
  (Aa (AC 5 A1I.nd Cm)
  (Aa (Vv (λσ1 E1 pn1 Ex1 hp=>UF (i:=5) A1I.nd rfl (Or.inl rfl) (ZE (My de) hr hp (AN (pv 0) (pv 2))))
   (Zb (λa oe=>(Ak (AC 4 A1I.nd BN))) VE %[|10] de.XT.m de.XT.ty de.XT.ic de.XT.bs) rfl rfl)
  (AX (MO (BF AH (pv 4) (BF AH %[|57] Ae (Cl _)) (Cl _)) (DD (BF (WQ hr.units9) (pv 5) %[|57] (Cl _)))))))),?_]
 refine#[M,Z,D,da,rfl,A0D _ _ hd,bb.z,bb.h.fr,bb.zok hn,by rw[bb.y.m];exact hD,λr xm M1 Hm Z1 fJ gL g1=>?_];have hf:=bb.half g1;rw[A0O.step bb.y]at fJ gL;have da1:=g1.s _ _ hd;have hD1:=hD.keep (TS.same g1.s);refine#[λcls dx H'=>dx=none/\A0B Hm H'/\(Be S D).word≠"done"/\cls=.ref (UT (%[|84]) (Be S D).word),#[M1,S,D,da,rfl,A0D _ _ da1,hf.h,hf.hok hn,hD1,λne H' s'=>#[rfl,s',ne,rfl],λed x2 M2 Hh S2 iJ g2=>?_],?_]
 ·have bn:=hf.both hD1 g2;have fu:=g2.tup hf.h fJ;have hx3:=g2.told hf.h gL;refine#[SqT.of fu,Ac (j:=0) rfl,rfl,rfl,BL (by rw[ed,decide_eq_true rfl]) ?_];refine#[SqT.of fu,Ac (j:=1) rfl,?_,q M2 Hh S2 Z1 (Go2.of bb g1 g2 bn)]
  revert iJ hx3
  cases (Be S D).told with
  |non=>exactλiJ hx3=>.inl #[iJ,hx3]
  |wd z=>exactλiJ hx3=>.inr (.inl #[z,iJ,hx3])
  |pr v z=>
   rintro⟨p1,q1,e1,rfl,h1⟩ ⟨p2,q2,e2,_,h2⟩;exact .inr (.inr #[p1,p2,q1,z,e1,e2,h1,h2])
 rintro cls dx H1 ⟨rfl,s1,ne,rfl⟩;obtain⟨y,hy,e⟩:∃y,y<7/\Be S D=⟨Jc y,.non,S.marks,EH S.ts,none⟩:=A2R.resolve_left ne;have g2:HGo cH cK M1 Hm S (Be S D) M1 H1 S:=by rw[e];exact HGo.no hf.h s1
 have bn:=hf.both hD1 g2;have go:=Go2.of bb g1 g2 bn;have fu:=s1 _ _ fJ;have hnd:=VD y hy;rw[e]at fu gL ⊢;rw[show UT (%[|84]) (Jc y)=(%[|84]) y from R7 y hy];have ex:xm=.non:=gL;subst ex;refine#[(%[|84]) y,rfl,true,(cM de.X_NoLetter de.X_NoWorld de.X_NoTalk de.X_NameTaken de.X_NoStanding de.X_TalkOver de.X_NothingSaid) y hy,AD λa vs sl hna=>?_];have e1:decide (V.str (Jc y)=V.str "done")=false:=decide_eq_false (λh=>hnd (by injection h));exact#[SqT.of fu,Ac (j:=0) rfl,rfl,rfl,BL (by rw[e1]) #[SqT.of fu,Ac (j:=1) rfl,.inl #[rfl,rfl],q M1 H1 S Z1 go]]
end
theorem Tm:(De U m).lookup ("known":Str)=none:=by with_unfolding_all rfl
inductive KO(C cL:Addr)(vs:List V)(H:Hp)(Q:VK)(E:XK):Prop|mk(x:Addr)(N:%[|3])(U:Hk)(m:Nat)(room:List Int)(marks:List (%[|17]))(ls:List V)(i:Int)(_:vs=[.ref x,.int i])(_:%[|76])(_:(¬MK m i->∀H',A0B H H'->E (.ref cL) none H'))(_:(∀(j:Nat)(k:%[|17]),i=(j:Int)->marks[j]? = some k->∀H',A0B H H'->Q (CA k) H'))
inductive HS(C cS:Addr)(vs:List V)(H:Hp)(Q:VK)(E:XK):Prop|mk(x:Addr)(N:%[|3])(U:Hk)(m:Nat)(room:List Int)(marks:List (%[|17]))(ls:List V)(v:V)(t:Tr)(_:vs=[.ref x,v])(_:%[|76])(_:t.At H v)(_:t.ok 5)(_:t.size<=60)(_:(¬t.ok m->∀H',A0B H H'->E (.ref cS) none H'))(_:(t.ok m->∀H',A0B H H'->Q (.str (Ba (room.filter (Dg marks)) t)) H'))
section
def U7:=Au O9 ["self","letter"] 2
def NH:=Au Ix ["self","sentence"] 2
theorem Rk(de:%[|5]):%[|39] "known" (EI P w) 3 (KO cH cL):=by
 refine de.h80.okX U7 ?_;rintro bz f dm A outer s H _ Q E hr ⟨x,N,U,m,room,marks,ls,i,rfl,hT,qE,q⟩
 refine#[_,Aa (As %[(G8 de)|118])
  (AX (Am Ay %[|13] (pv 1))),?_]
 refine#[hT.ob,Jl,x,N,U,m,room,marks,ls,i,rfl,hT,λh1 H' s'=>qE h1 H' s',λh1 H' s'=>?_];obtain⟨j,ej⟩:=zBT h1.1
 have hj:j<marks.length:=by
  have:=h1.2;rw[hT.len];omega
 have iu:=hT.keep s';have hk:marks[j]? = some marks[j]:=List.getElem?_eq_getElem hj;exact#[iu.ob,de.HX.cl,de.HX.marks,Hb,SqL.of iu.mk',(by rw[ej];exact Ac (by rw[List.getElem?_map,hk];rfl)),q j _ ej hk H' s']
theorem Mb(de:%[|5]):%[|39] "plainly" (EI P w) 5 (HS cH cS):=by
 refine de.h79.okX NH ?_;rintro bz f dm A outer s H _ Q E hr ⟨x,N,U,m,room,marks,ls,v,t,rfl,hT,ha,eW,hsz,qE,q⟩
 refine#[_,Aa (As (Ax (El de) hr %[|24] (AN (pv 1) %[|13])))
  (AX (Ax (Fe de) hr Al (AN (B0 (pv 0) de.HX.cl (DZ de) hr Al) (Ax (CI de) hr Al (AN (pv 1) %[|13]))))),?_]
 refine#[hT.ob,de.HX.cl,de.HX.many,Kd,v,t,m,rfl,ha,eW,hsz,λh1 H' s'=>qE h1 H' s',λh1 H1 s1=>?_];have eA:=hT.keep s1;refine#[eA.ob,Fg,x,N,U,m,room,marks,ls,rfl,eA,λsn H2 s2 sn0 g9=>?_];have eB:=eA.keep s2;have wsn:=hT.wr.sub (zAM (p:=Dg marks) (l:=room));refine#[eB.ob,de.HX.cl,de.HX.space,D3,v,t,U.sp,room,rfl,ha.keep (TS.same (s1.trans s2)),eW,by omega,SqL.of eB.sp',hT.wr,λwl H3 s3 wl0 fM=>?_];refine#[sn,wl,_,_,rfl,SqL.of (s3 _ _ g9),wsn,hT.ne,SqL.of fM,hT.wr.sub zAM,λH4 s4=>?_];have hq:=q h1 H4 (s1.trans (s2.trans (s3.trans s4)));rw[<-FL (room:=room) zAM]at hq;exact hq
end
theorem WP:BH (DL p) "sentence"=some p.v:=by with_unfolding_all rfl
theorem A0O.tw(b:%[|69])(hp:p∈Z.ts):∃q∈S.ts,q.nm=p.nm/\q.w=p.w:=by
 have h:(p.nm,p.w)∈EH S.ts:=by rw[<-b.y.ts];exact List.mem_map.mpr #[p,hp,rfl]
 obtain⟨q,hq,e⟩:=List.mem_map.mp h;injection e with e1 e2
 exact#[q,hq,e1,e2]
theorem ON{K:PySem.W.Frag}{H:Hp}{n:Nat}:∀{xs ys:List V}{es:List (V×Tr×Str)},A0K H xs es->A0K H ys es->xs.length=ys.length/\∀(i:Nat) x y,xs[i]? = some x->ys[i]? = some y->DS K H (n+1) x y
 |_,_,_,.nil,.nil=>#[rfl,λi x y e=>by simp at e]
 |_,_,_,.cons ⟨p1,e1,h1,a1⟩ q1,.cons ⟨p2,e2,h2,_⟩ q2=>by
  obtain⟨l,ih⟩:=ON (K:=K) (n:=n) q1 q2;refine#[congrArg (· + 1) l,λi x y hx hy=>?_]
  cases i with
  |succ i=>exact ih i x y hx hy
  |zero=>
   obtain⟨v,ev⟩:=NW a1;rw[ev]at h1 h2;rw[<-zAH hx,<-zAH hy,e1,e2];exact .inr #[p1,p2,_,_,rfl,rfl,rfl,FG (by simp[fl]),.inr #[SqT.of h1,SqT.of h2]]
inductive Jp(C cK:Addr)(vs:List V)(H:Hp)(Q:VK)(E:XK):Prop|mk(M:%[|3])(S:HSt)(Z:Mz)(n:Nat)(p:Mt)(v:V)(t:Tr)(_:vs=[.ref S.x,.ref Z.st,.ref p.d,v])(_:%[|69])(_:n<890)(_:p∈Z.ts)(_:t.At H v)(_:t.ok S.m)(_:t.size<=20)(_:∀H',A0B H H'->Q (.bl true) H')
section
def A1Y:=Au Lj ["_law_house","_law_state_here","_law_talk","_law_asked_here","_law_name_here","_law_held","_law_one"] 4
theorem NQ(de:%[|5]):%[|8] "_law_talk_looks" BC 27 (Jp cH cK):=by
 refine de.h91.ok A1Y ?_;rintro bz f dm A outer s H _ Q E hr ⟨M,S,Z,n,p,v,t,rfl,bb,hn,hp,ha,hok,hsz,q⟩
 refine#[_,Aa (AC 4 A1Y.nd %[|56])
  (Aa (AC 5 A1Y.nd (Am Ay %[|56] (HJ EY Ad)))
  (Aa (Aq (HB (AM (E3 hr.units9) (By (pv 0) de.HX.cl (Go de) hr CW (AI (pv 4))) %[|56]) (E5 (AM (E3 hr.units9) (By (pv 0) de.HX.cl (KA de) hr CW (AI (pv 4))) (pv 5)))).pt
   (AX BN)
   Ah)
  (Aa (Aq (HB (AM AH (By (pv 0) de.HX.cl (NK de) hr CW (AI (pv 4))) (Ax (ES de) hr Al (AN %[|56] (pv 5)))) (E5 (AM ER (By (pv 0) de.HX.cl (UE de) hr CW (AI (pv 4))) %[|56]))).pt
   (AX BN)
   Ah)
  (Aa (BB zAR rfl (AT (Av (Ag (pv 3) (Ag (Bj (AN Ae (pv 3))) (AN %[|56] (pv 3)))))) (Bo 6 A1Y.nd)
   (Ak (Aq (AM ER (By (pv 0) de.HX.cl (Vp de) hr CW (AN (pv 4) (pv 6))) (Ax (Ja de) hr Al (Ag (pv 1) (AN (pv 2) (pv 6)))))
    (AX BN)
    Ah)))
  (AX BN))))),?_]
 have zok:=bb.zok hn;obtain⟨wo,_,_,erm,_⟩:=zok.w p hp;obtain⟨p2,fK,en,ew⟩:=bb.tw hp;have inn:p.nm∈CM S.ts:=List.mem_map.mpr #[p2,fK,en];have only:∀q2∈S.ts,q2.nm=p.nm->q2=p2:=λq2 h2 e2=>BW bb.h.na h2 fK (e2.trans en.symm)
 have tq:=(bb.h.tt p2 fK).1;have mp:=bb.z.tt p hp;obtain⟨gl,fZ,iP⟩:=Dl mp.lr wo.ln;have m5:=bb.h.h.m5;have eW:=hok.mono m5;refine#[mp.ob,GS,?_];refine#[mp.ob,Dr,_,rfl,SqL.of mp.hl,fZ,?_];refine#[bb.h.h.ob,Ho,M,S,p.nm,rfl,bb.h,λc=>absurd inn c,λq2 h2 e2 l1 H1 s1 l10 eC=>?_];rw[only q2 h2 e2]at eC;have b1:=bb.keep s1;have eX:=b1.z.tt p hp;have en1:A0K H1 p2.u.ges p.w.ents:=by rw[<-ew];exact (tq.keep s1).en.keep A0D
 obtain⟨OP,ds1⟩:=ON (K:=K) (n:=2) en1 (eX.en.keep A0D);refine#[eX.ob,FB,l1,p.sa,_,_,rfl,rfl,OP,ds1,.inl #[SqL.of eC,SqL.of eX.sa],Aw ?_];refine#[b1.h.h.ob,Op,M,S,p.nm,rfl,b1.h,λc=>absurd inn c,λq3 h3 e3 l2 H2 s2 kF dG=>?_];rw[only q3 h3 e3,ew]at dG;have b2:=b1.keep s2;have gl2:∀{H3:Hp},A0B H H3->SqL K H3 gl (p.w.held.map V.int):=λs3=>SqL.of (s3 _ _ (A0D _ _ iP))
 refine#[l2,gl,_,_,rfl,rfl,rfl,JM,.inl #[SqL.of dG,gl2 (s1.trans s2)],Aw ?_];refine#[b2.h.h.ob,Ri,M,S,p.nm,rfl,b2.h,λc=>absurd inn c,λq4 h4 e4 H3 s3=>?_];rw[only q4 h4 e4,ew];have s03:=s1.trans (s2.trans s3);have b3:=bb.keep s03;have mp3:=b3.z.tt p hp;have fW:p.w.held.length<=900:=wo.l9 _ (Do wo.ln);refine#[mp3.ob,HC,p.sd,gl,p.w.held,p.sds,p.w.sides,rfl,gl2 s03,fW,SqL.of (A0D _ _ mp3.sd),mp3.sr.keep A0D,wo.s9,λH4 s4=>?_];have s04:=s03.trans s4;have b4:=bb.keep s04;have mp4:=b4.z.tt p hp;have nb:¬(V.bl (!AO p.w.sides p.w.held)=V.bl (AO p.w.sides p.w.held)):=by cases AO p.w.sides p.w.held<;>(intro z;cases z)
 refine#[rfl,Bz nb ?_];refine#[b4.h.h.ob,VT,M,S,p.nm,rfl,b4.h,λc=>absurd inn c,λq5 h5 e5=>?_];rw[only q5 h5 e5,ew];refine#[mp4.ob,Ew,rfl,?_];rw[decide_eq_true rfl];refine Aw ?_;refine#[C4,λnt hnt=>?_];have s5:=Ab hnt (.tup [.str "not",v]);have nt5:upd H4 nt (.tup [.str "not",v]) nt=some (.tup [.str "not",v]):=A0A;generalize upd H4 nt (.tup [.str "not",v])=H5 at*;have mp5:=mp4.keep s5;refine#[mp5.ob,WP,Z3,λal gf=>?_];have s6:=Ab gf (.lst [v,.ref nt,p.v,v]);have al6:upd H5 al (.lst [v,.ref nt,p.v,v]) al=some (.lst [v,.ref nt,p.v,v]):=A0A;generalize upd H5 al (.lst [v,.ref nt,p.v,v])=H6 at*;have s06:=s04.trans (s5.trans s6)
 have ew2:p.w.t.ok S.m/\p.w.t.size<=23:=by
  rw[<-ew,<-(bb.h.tt p2 fK).2.2];exact#[tq.tok,tq.tsz]
 have fT:∀y∈[v,.ref nt,p.v,v],∃u:Tr,BV (u.At H6 y) (u.ok S.m) (u.size<=23):=λy hy=>by
  have h1:∃u:Tr,BV (u.At H6 v) (u.ok S.m) (u.size<=23):=#[t,ha.keep (TS.same s06),hok,by omega];simp only[zAD,zAB,or_false]at hy;rcases hy with rfl|rfl|rfl|rfl
  ·exact h1
  ·exact#[.nt t,#[nt,v,rfl,s6 _ _ nt5,ha.keep (TS.same s06)],hok,by show t.size+1<=23;omega]
  ·exact#[p.w.t,mp.tr.keep (TS.same (A0D.trans s06)),ew2.1,ew2.2]
  ·exact h1
 refine#[#[_,SqL.of al6],A0 (K:=K) (a:=al) (xs:=[v,.ref nt,p.v,v]) (λi σ Hi=>∃v0,σ=[some (.ref S.x),some (.ref Z.st),some (.ref p.d),some v,some (.str p.nm),some (.ref gl),v0]/\A0B H6 Hi) #[_,rfl,A0B.refl _] ?_ ?_ ?_]
 ·rintro i σ Hi _ ⟨v0,rfl,si⟩;exact SqL.of (si _ _ al6)
 ·rintro i y σ Hi hy ⟨v0,rfl,si⟩;obtain⟨u,hu,uok,usz⟩:=fT y (zAJ hy);have bi:=bb.keep (s06.trans si);have ui:=hu.keep (TS.same si);refine#[bi.h.h.ob,YA,M,S,p.nm,y,u,rfl,bi.h,ui,uok.mono m5,by omega,λc=>absurd inn c,λ_ _ _ c=>absurd uok c,λq6 h6 e6 _ H7 s7=>?_];rw[only q6 h6 e6,ew];have b7:=bi.keep s7;refine#[M,Z,p,y,u,rfl,b7.z,hp,wo,zok.wr.len,by rw[zok.ml];exact zok.m5,ui.keep (TS.same s7),uok.mono m5,usz,λH8 s8=>?_]
  have e:Cs p.w S.seen u=DP Z p.w u:=by
   rw[<-PQ zok hp,bb.y.room,bb.y.marks];rfl
  refine#[rfl,?_];rw[e,decide_eq_true rfl];exact Aw #[_,rfl,si.trans (s7.trans s8)]
 ·rintro σ Hi ⟨v0,rfl,si⟩;exact q Hi (s06.trans si)
inductive Lo(C cK:Addr)(vs:List V)(H:Hp)(Q:VK)(E:XK):Prop|mk(M:%[|3])(S:HSt)(Z:Mz)(n:Nat)(v:V)(t:Tr)(_:vs=[.ref S.x,.ref Z.st,v])(_:%[|69])(_:n<890)(_:t.At H v)(_:t.ok S.m)(_:t.size<=20)(_:∀H',A0B H H'->Q (.bl true) H')
def A2H:=Au N7 ["_law_house","_law_state_here","_law_asked_here","_law_seen","_law_one"] 3
theorem Qu(de:%[|5]):%[|8] "_law_looks" BC 28 (Lo cH cK):=by
 refine de.h92.ok A2H ?_;rintro bz f dm A outer s H _ Q E hr ⟨M,S,Z,n,v,t,rfl,bb,hn,ha,hok,hsz,q⟩
 refine#[_,Aa (AC 3 A2H.nd (Ax (Fa de) hr Al (AN (Am Az (pv 1) Ae) (Am Az (pv 1) Ae))))
  (Aa (Aq (HB (AM (E3 hr.units9) (B0 (pv 0) de.HX.cl (Ls de) hr Al) (Am Az (pv 1) Ae)) (E5 (AM (E3 hr.units9) (B0 (pv 0) de.HX.cl (DZ de) hr Al) (pv 3)))).pt
   (AX BN)
   Ah)
  (Aa (BB zAR rfl (AT (Av (Ag (pv 2) (AN (Bj (AN Ae (pv 2))) (pv 2))))) (Bo 4 A2H.nd)
   (Ak (Aq (AM ER (By (pv 0) de.HX.cl (Mb de) hr CW (AI (pv 4))) (Ax (FQ de) hr Al (AN (pv 3) (pv 4))))
    (AX BN)
    Ah)))
  (Aa (Aq (AM (E3 hr.units9) (A8 (N:=["_law_k","_law_house"]) (js:=[none,some 0]) (cl:=[("_law_house",s.heap.objs.size+1)]) #[rfl,rfl,rfl,(by intro p hp;simp at hp;rcases hp with rfl<;>rfl),rfl,rfl,rfl] (%[|68] (AI (Am Az (pv 1) Ae))) (λc1=>(Bo 0 (show (["_law_k","_law_house"]:List Str).Nodup by decide +kernel))) (λc1=>Bk) (λc1=>(By (pv 1) de.HX.cl (Rk de) hr CW (AI (pv 0))))) (Am Az (pv 1) Ae))
   (AX BN)
   Ah)
  (Aa (Aq (PW.pt (HB (AM (E3 hr.units9) (B0 (pv 0) de.HX.cl (IV de) hr Al) (A8 (N:=["_law_talk"]) (js:=[none]) (cl:=[]) #[rfl,rfl,rfl,zBU _,rfl,rfl,rfl] (AT (Am Az (pv 1) Ae)) %["_law_talk"|122] (λc1=>Bk) (λc1=>%[|54]))) (E5 (AM (E3 hr.units9) (B0 (pv 0) de.HX.cl (WL de) hr Al) (Am Az (pv 1) Ae)))))
   (AX BN)
   Ah)
  (AX (AQ (Dp rfl) %[|10] de.T.all boot_all (AI (A8 (N:=["_law_talk","_law_asked_here","_law_house","_law_state_here"]) (js:=[none,some 2,some 0,some 1]) (cl:=[("_law_state_here",s.heap.objs.size+2),("_law_house",s.heap.objs.size+1),("_law_asked_here",s.heap.objs.size+3)]) #[rfl,rfl,rfl,(by intro p hp;simp at hp;rcases hp with rfl|rfl|rfl<;>rfl),rfl,rfl,rfl] (AT (Am Az (pv 1) Ae)) (λc1=>(Bo 0 (show (["_law_talk","_law_asked_here","_law_house","_law_state_here"]:List Str).Nodup by decide +kernel))) (λc1=>Bk) (λc1=>(Ax (NQ de) hr Al (Ag (pv 2) (Ag (pv 3) (AN (pv 0) (pv 1)))))))))))))),?_]
 have zok:=bb.zok hn;have hx:=bb.h.h;have zr:AK H Z.r S.room:=by rw[<-bb.y.room];exact A0D _ _ bb.z.r
 have zm:H Z.mka=some (.lst (S.marks.map CA)):=by rw[<-bb.y.marks];exact A0D _ _ bb.z.mkm
 refine#[bb.z.ob,EG,bb.z.ob,Ft,Z.r,Z.mka,S.room,S.marks,rfl,SqL.of zr,hx.wr.len,zm,by rw[hx.len];exact hx.m5,λsn H1 s1 sn0 g9=>?_];have b1:=bb.keep s1;refine#[b1.h.h.ob,Oh,S.x,S.U,S.m,S.room,rfl,b1.h.h.ob,A0D _ _ b1.h.h.sp,λl1 H2 s2 l10 eC=>?_];have s02:=s1.trans s2;have b2:=bb.keep s02;refine#[b2.z.ob,EG,l1,Z.r,_,_,rfl,rfl,rfl,JM,.inl #[SqL.of eC,SqL.of (s02 _ _ zr)],Aw ?_];refine#[b2.h.h.ob,Fg,S.x,M,S.U,S.m,S.room,S.marks,S.ls,rfl,b2.h.h,λl2 H3 s3 kF dG=>?_];refine#[l2,sn,_,_,rfl,rfl,rfl,JM,.inl #[SqL.of dG,SqL.of ((s2.trans s3) _ _ g9)],Aw ?_];have s03:=s02.trans s3;have sn3:=(s2.trans s3) _ _ g9;refine#[C4,λnt hnt=>?_];have s4:=Ab hnt (.tup [.str "not",v]);have nt4:upd H3 nt (.tup [.str "not",v]) nt=some (.tup [.str "not",v]):=A0A;generalize upd H3 nt (.tup [.str "not",v])=H4 at*;refine#[ML,λal gf=>?_];have s5:=Ab gf (.lst [v,.ref nt,v]);have al5:upd H4 al (.lst [v,.ref nt,v]) al=some (.lst [v,.ref nt,v]):=A0A;generalize upd H4 al (.lst [v,.ref nt,v])=H5 at*;have s35:=s4.trans s5;have s05:=s03.trans s35
 have fT:∀y∈[v,.ref nt,v],∃u:Tr,BV (u.At H5 y) (u.ok S.m) (u.size<=23):=λy hy=>by
  have h1:∃u:Tr,BV (u.At H5 v) (u.ok S.m) (u.size<=23):=#[t,ha.keep (TS.same s05),hok,by omega];simp only[zAD,zAB,or_false]at hy;rcases hy with rfl|rfl|rfl
  ·exact h1
  ·exact#[.nt t,#[nt,v,rfl,s5 _ _ nt4,ha.keep (TS.same s05)],hok,by show t.size+1<=23;omega]
  ·exact h1
 have lsn:(S.room.filter (Dg S.marks)).length<=900:=zAC (zAV _ _) (zAC hx.wr.len %[|2]);refine#[#[_,SqL.of al5],A0 (K:=K) (a:=al) (xs:=[v,.ref nt,v]) (λi σ Hi=>∃v0,σ=[some (.ref S.x),some (.ref Z.st),some v,some (.ref sn),v0]/\A0B H5 Hi) #[_,rfl,A0B.refl _] ?_ ?_ ?_]
 ·rintro i σ Hi _ ⟨v0,rfl,si⟩;exact SqL.of (si _ _ al5)
 ·rintro i y σ Hi hy ⟨v0,rfl,si⟩;obtain⟨u,hu,uok,usz⟩:=fT y (zAJ hy);have bi:=bb.keep (s05.trans si);have ui:=hu.keep (TS.same si);refine#[bi.h.h.ob,Ng,S.x,M,S.U,S.m,S.room,S.marks,S.ls,y,u,rfl,bi.h.h,ui,uok.mono hx.m5,by omega,λc=>absurd uok c,λ_ H7 s7=>?_];refine#[sn,y,u,_,rfl,ui.keep (TS.same s7),uok.mono hx.m5,usz,SqL.of ((s35.trans (si.trans s7)) _ _ sn3),lsn,λH8 s8=>?_];refine#[rfl,?_];rw[decide_eq_true rfl];exact Aw #[_,rfl,si.trans (s7.trans s8)]
 rintro σ Hi ⟨v0,rfl,si⟩;have s0i:=s05.trans si;have b6:=bb.keep s0i;have ml:=hx.len;have dR:=hx.m5;have em:Z.m=S.m:=bb.y.m;refine#[b6.z.ob,O3,by omega,by omega,λcc kl hkl=>Bn (n:=((Z.m:Nat):Int).toNat) (λj σ Hj=>∃v0,BV (σ=[v0,some (.ref S.x)]) (A0B Hi Hj) (Hj kl=some (.lst ((S.marks.take j).map CA)))) #[_,rfl,Ab hkl _,A0A] ?_ ?_]
 ·rintro j σ Hj hj ⟨v0,rfl,sj,hkj⟩;rw[zB9];have hj5:j<S.marks.length:=by omega
  have hmi:S.marks[j]? = some S.marks[j]:=List.getElem?_eq_getElem hj5;have bj:=b6.keep sj;refine AD #[bj.h.h.ob,Tm,S.x,M,S.U,S.m,S.room,S.marks,S.ls,(j:Int),rfl,bj.h.h,λc=>absurd #[by omega,by omega] c,λj2 k2 ej hk H8 s8=>?_];obtain rfl:j=j2:=by omega
  refine#[_,s8 _ _ hkj,An (by rw[List.length_map,zAW];omega),_,rfl,Ao (sj.trans s8) hkl _,?_];rw[A0A,zAQ,hk,List.map_append];rfl
 rintro σ Hj ⟨v1,rfl,sj,hkj⟩;have ej:((Z.m:Nat):Int).toNat=S.marks.length:=by omega
 rw[ej,zAP]at hkj;have s0j:=s0i.trans sj;have b7:=bb.keep s0j;refine#[b7.z.ob,Ft,kl,Z.mka,_,_,rfl,rfl,rfl,FG (λy hy=>by obtain⟨k,_,rfl⟩:=List.mem_map.mp hy;cases k<;>trivial),.inl #[SqL.of hkj,SqL.of (s0j _ _ zm)],Aw ?_]
 have enm:CM S.ts=Kx Z.ts:=by
  have:=congrArg (List.map (·.1)) bb.y.ts;unfold BS EH at this;rw[zA0,zA0]at this;exact this.symm
 refine#[b7.h.h.ob,LX,M,S,rfl,b7.h,λnl H9 s9 nl0 fq=>?_];have s09:=s0j.trans s9;have b9:=bb.keep s09;have lz:Z.ts.length<900:=zok.ts;refine#[b9.z.ob,Dn,#[_,SqL.of b9.z.tl],λcc al gf=>A0 (K:=K) (a:=Z.tl) (xs:=Z.ts.map λp=>V.ref p.d) (λi σ Hk=>∃v0,BV (σ=[v0]) (A0B H9 Hk) (Hk al=some (.lst ((Z.ts.take i).map λp=>V.str p.nm)))) #[_,rfl,Ab gf _,A0A] ?_ ?_ ?_]
 ·rintro i σ Hk _ ⟨v0,rfl,sk,_⟩;exact SqL.of (sk _ _ b9.z.tl)
 ·rintro i y σ Hk hy ⟨v0,rfl,sk,je⟩;rw[List.getElem?_map]at hy;obtain⟨p,hp,rfl⟩:=Option.map_eq_some_iff.mp hy;have mp:=(b9.z.tt p (zAJ hp)).keep sk;refine AD #[mp.ob,GS,_,je,An (by rw[List.length_map,zAW];omega),_,rfl,Ao sk gf _,?_];rw[A0A,zAQ,hp,List.map_append];rfl
 rintro σ Hk ⟨v2,rfl,sk,je⟩;rw[List.length_map,zAP]at je;refine#[nl,al,(CM S.ts).map V.str,Z.ts.map λp=>V.str p.nm,rfl,rfl,by rw[enm];simp[Kx],?_,.inl #[SqL.of (sk _ _ fq),SqL.of je],Aw ?_]
 ·rw[enm,show (Kx Z.ts).map V.str=Z.ts.map λp=>V.str p.nm from zA0];exact FG λy hy=>by obtain⟨k,_,rfl⟩:=List.mem_map.mp hy;trivial
 have s0k:=s09.trans sk;have b10:=bb.keep s0k;refine#[b10.h.h.ob,Za,S.x,M,S.U,S.m,S.room,S.marks,S.ls,rfl,b10.h.h,λgl gm iO gl0 jV=>?_];have s011:=s0k.trans iO;have ip:=bb.keep s011;refine#[ip.z.ob,CH,gl,Z.ln,S.ls,S.ls,rfl,rfl,rfl,FG (λy hy=>by obtain⟨z,rfl⟩:=bb.txt y hy;trivial),.inl #[SqL.of jV,SqL.of (by rw[ip.z.ln,bb.y.ls])],Aw ?_];refine#[ip.z.ob,Dn,#[_,SqL.of ip.z.tl],λcc bl hbl=>LJ (bs:=Z.ts.map λ_=>true) (SqL.of ip.z.tl) hbl %[|58] %[|1] (λi x b iJ hb i8 eE R hR=>?_) (λv3 i8 eE h12=>?_) _]
 ·rw[List.getElem?_map]at iJ hb;obtain⟨p,hp,rfl⟩:=Option.map_eq_some_iff.mp iJ;obtain⟨_,_,rfl⟩:=Option.map_eq_some_iff.mp hb;exact#[M,S,Z,n,p,v,t,rfl,ip.keep eE,hn,zAJ hp,ha.keep (TS.same (s011.trans eE)),hok,hsz,hR]
 ·refine#[bl,_,rfl,SqL.of h12,?_];rw[show (Z.ts.map λ_=>true).all id=true by simp];exact q _ (s011.trans eE)
end
section
variable {C:Addr}{M N M':%[|3]}{H H0 H':Hp}{S S0 S1 S':HSt}{Z Z0 Z1 Z':Mz}{n n0 n1:Nat}
theorem JZ(h:%[|21])(e:S.ts=[])(n1:S.U.sp∉N)(n2:S.U.mks∉N)(f:∀b∈N,H b≠none):A0C (M++N) C cK H S:=by
 have hx:=h.h;have sub:∀{b},b∈M->b∈M++N:=λh=>zBM _ h
 have k:∀{b:Addr}{o:HO},b∉N->A1 M H b=some o->A1 (M++N) H b=some o:=λnb e=>by
  obtain⟨e1,e2⟩:=Bc e;exact AW e1 λz=>(List.mem_append.mp z).elim e2 nb
 refine#[#[hx.ob,hx.ln,sub hx.mx,sub hx.ml,k n1 hx.sp,k n2 hx.mkm,hx.len,hx.m1,hx.m5,hx.wr,hx.ne,hx.l9],h.tk,sub h.mt,λp hp=>?_,h.nl,h.na,h.aa,λb hb=>(List.mem_append.mp hb).elim (h.fr b) (f b),h.tl];rw[e]at hp;cases hp
theorem GV(s:A0B H H')(fr:∀b∈M,H b≠none)(fN:∀b∈N,H' b≠none):∀b∈N++M,H' b≠none:=λb hb=>(List.mem_append.mp hb).elim (fN b) λh z=>fr b h (s.free z)
theorem A0C.plus(h:%[|21])(s:A0B H H')(hN:∀b∈N,H b=none)(fN:∀b∈N,H' b≠none):A0C (N++M) C cK H' S:=
 h.aside2 (C0 s hN) (λb hb=>zAE _ hb) (GV s h.fr fN) λc hc=>FH s (h.fr c (EM h c hc))
theorem A0O.plus(b:%[|69])(s:A0B H H')(hN:∀b∈N,H b=none)(fN:∀b∈N,H' b≠none):A0O C cK (N++M) H' S Z n:=
 #[b.h.plus s hN fN,b.z.more s hN,b.y,b.d,b.t,b.ls,b.sl]
structure Two(C cK:Addr)(M:%[|3])(H:Hp)(S0:HSt)(Z0:Mz)(n0:Nat)(S1:HSt)(Z1:Mz)(n1:Nat):Prop where
 b0:A0O C cK M H S0 Z0 n0
 b1:A0O C cK M H S1 Z1 n1
 d:∀c,c∈BT S0\/c∈Bx Z0->¬(c∈BT S1\/c∈Bx Z1)
theorem Two.swap(t:Two C cK M H S0 Z0 n0 S1 Z1 n1):Two C cK M H S1 Z1 n1 S0 Z0 n0:=#[t.b1,t.b0,λc h1 h0=>t.d c h0 h1]
theorem Two.keep(s:A0B H H')(t:Two C cK M H S0 Z0 n0 S1 Z1 n1):Two C cK M H' S0 Z0 n0 S1 Z1 n1:=#[t.b0.keep s,t.b1.keep s,t.d]
theorem Two.go(t:Two C cK M H S0 Z0 n0 S1 Z1 n1)(g:Go2 C cK M H S0 Z0 n0 M' H' S' Z'):Two C cK M' H' S' Z' (n0+1) S1 Z1 n1:=by
 have inM:∀c,c∈BT S1\/c∈Bx Z1->c∈M:=λc h=>h.elim (EM t.b1.h c) (W7 t.b1.z c)
 have same:∀c,c∈BT S1\/c∈Bx Z1->H' c=H c:=λc h=>g.out c (inM c h) (λz=>t.d c (.inl z) h) λz=>t.d c (.inr z) h
 refine#[g.b,#[t.b1.h.aside2 g.s g.sub g.b.h.fr λc hc=>same c (.inl hc),t.b1.z.aside2 g.s g.sub λc hc=>same c (.inr hc),t.b1.y,t.b1.d,t.b1.t,t.b1.ls,t.b1.sl],λc h h1=>?_];rcases g.nw c h with h|h
 ·exact t.d c h h1
 ·exact t.b1.h.fr c (inM c h1) h
structure aq(S:HSt)(k:Nat)(us:List Tr):Prop where
 m:S.m=k
 room:S.room=AY k us
 marks:S.marks=List.replicate k none
 ls:S.ls=[.str (BQ k us)]
 ts:S.ts=[]
structure Hous(C cK:Addr)(H0 H:Hp)(M:%[|3])(D:Nat->Nat×List Tr)(Ss:List HSt):Prop where
 s:A0B H0 H
 h:∀S∈Ss,%[|21]
 nw:∀(i:Nat) S,Ss[i]? = some S->aq S (D i).1 (D i).2
 ap:Ss.Pairwise λa b=>∀c∈BT a,c∉BT b
 fr:∀b∈M,H b≠none
 off:∀b∈M,H0 b=none
 nt:A1F M H
theorem Hous.add(h:Hous C cK H0 H M D Ss)(s5:A0B H H')(eL:BT S=N)(hN:∀b∈N,H b=none)(sp:H S.U.sp=none)(mk:H S.U.mks=none)(hT:A0C N C cK H' S)(nt:A1F N H')(hn:aq S (D Ss.length).1 (D Ss.length).2):
  Hous C cK H0 H' (N++M) D (Ss++[S]):=by
 have fr':∀b∈M,H' b≠none:=λb hb z=>h.fr b hb (s5.free z)
 have nM:∀{b:Addr},H b=none->b∉M:=λe z=>h.fr _ z e
 refine#[h.s.trans s5,λS' dX=>?_,λi S' hi=>?_,?_,GV s5 h.fr hT.fr,λb hb=>?_,λb hb ys e=>?_]
 ·rcases List.mem_append.mp dX with z|z
  ·exact (h.h S' z).plus s5 hN hT.fr
  ·rw[List.mem_singleton.mp z];exact JZ hT hn.ts (nM sp) (nM mk) fr'
 ·rcases zDP i Ss.length with l|l
  ·rw[List.getElem?_append_left l]at hi;exact h.nw i S' hi
  ·rw[List.getElem?_append_right l]at hi
   have e:i=Ss.length:=by
    have:=%[hi|117].1;simp at this;omega
   subst e;rw[Nat.sub_self]at hi;cases hi;exact hn
 ·refine List.pairwise_append.mpr #[h.ap,List.pairwise_singleton _ _,λa ha b hb c hc hz=>?_];rw[List.mem_singleton.mp hb,eL]at hz;exact h.fr c (EM (h.h a ha) c hc) (hN c hz)
 ·exact (List.mem_append.mp hb).elim (λz=>h.s.free (hN b z)) (h.off b)
 ·rcases List.mem_append.mp hb with z|z
  ·exact nt b z ys e
  ·exact h.nt.keep s5 h.fr b z ys e
structure Prs(C cK:Addr)(H:Hp)(M:%[|3])(Ss:List HSt)(Zs:List Mz):Prop where
 h:∀S∈Ss,%[|21]
 b:∀(i:Nat) S Z,Ss[i]? = some S->Zs[i]? = some Z->A0O C cK M H S Z 0
 zz:Zs.Pairwise λa b=>∀c∈Bx a,c∉Bx b
 zs:∀Z∈Zs,∀S∈Ss,∀c∈BT S,c∉Bx Z
 zf:∀Z∈Zs,∀c∈Bx Z,H c≠none
 fr:∀b∈M,H b≠none
 nt:A1F M H
theorem Prs.add(h:Prs C cK H M Ss Zs)(s:A0B H H')(eL:Bx Z=N)(hN:∀b∈N,H b=none)(hS:Ss[Zs.length]? = some S)(hB:A0O C cK (N++M) H' S Z 0)(nt:A1F N H'):Prs C cK H' (N++M) Ss (Zs++[Z]):=by
 have fN:∀b∈N,H' b≠none:=λb hb=>hB.h.fr b (zBM _ hb)
 refine#[λS' dX=>(h.h S' dX).plus s hN fN,λi S' Z' h1 h2=>?_,?_,λZ' hZ' S' dX c hc hz=>?_,λZ' hZ' c hc=>?_,GV s h.fr fN,λb hb ys e=>?_]
 ·rcases zDP i Zs.length with l|l
  ·rw[List.getElem?_append_left l]at h2;exact (h.b i S' Z' h1 h2).plus s hN fN
  ·rw[List.getElem?_append_right l]at h2
   have e:i=Zs.length:=by
    have:=%[h2|117].1;simp at this;omega
   subst e;rw[Nat.sub_self]at h2;cases h2;rw[hS]at h1;cases h1;exact hB
 ·refine List.pairwise_append.mpr #[h.zz,List.pairwise_singleton _ _,λa ha b hb c hc hz=>?_];rw[List.mem_singleton.mp hb,eL]at hz;exact h.zf a ha c hc (hN c hz)
 ·rcases List.mem_append.mp hZ' with z|z
  ·exact h.zs Z' z S' dX c hc hz
  ·rw[List.mem_singleton.mp z,eL]at hz;exact h.fr c (EM (h.h S' dX) c hc) (hN c hz)
 ·rcases List.mem_append.mp hZ' with z|z
  ·exactλe=>h.zf Z' z c hc (s.free e)
  ·rw[List.mem_singleton.mp z,eL]at hc;exact fN c hc
 ·rcases List.mem_append.mp hb with z|z
  ·exact nt b z ys e
  ·exact h.nt.keep s h.fr b z ys e
theorem Prs.two(h:Prs C cK H M [S0,S1] [Z0,Z1])(ap:[S0,S1].Pairwise λa b=>∀c∈BT a,c∉BT b):Two C cK M H S0 Z0 0 S1 Z1 0:=by
 have a1:∀c∈BT S0,c∉BT S1:=by simpa using ap
 have a2:∀c∈Bx Z0,c∉Bx Z1:=by simpa using h.zz
 refine#[h.b 0 _ _ rfl rfl,h.b 1 _ _ rfl rfl,λc h0 h1=>?_];rcases h0 with h0|h0<;>rcases h1 with h1|h1
 ·exact a1 c h0 h1
 ·exact h.zs Z1 %[|1] S0 %[|1] c h0 h1
 ·exact h.zs Z0 %[|1] S1 %[|1] c h1 h0
 ·exact a2 c h0 h1
theorem TJ(fr:∀b∈M,H b≠none):∀b∈M,upd H hd o b≠none:=λb hb=>by
 by_cases e:b=hd
 ·rw[e,A0A];intro z;cases z
 ·rw[Af e];exact fr b hb
theorem Sb(nt:A1F M H):A1F M (upd H hd (.lst ys)):=λb hb zs z=>by
 by_cases e:b=hd
 ·rw[e,A0A]at z;cases z
 ·rw[Af e]at z;exact nt b hb zs z
theorem Hous.poke(h:Hous C cK H0 H M D Ss)(hm:hd∈M)(hn:∀S∈Ss,hd∉BT S):Hous C cK H0 (upd H hd (.lst ys)) M D Ss:=
 #[Ao h.s (h.off hd hm) _,λS hS=>(h.h S hS).poke hm (hn S hS),h.nw,h.ap,TJ h.fr,h.off,Sb h.nt]
theorem A0O.poke(b:%[|69])(hm:hd∈M)(n1:hd∉BT S)(n2:hd∉Bx Z):A0O C cK M (upd H hd (.lst ys)) S Z n:=
 #[b.h.poke hm n1,b.z.aside (But.upd hm) λc hc=>Af λe=>n2 (by rw[<-e];exact hc),b.y,b.d,b.t,b.ls,b.sl]
theorem Prs.poke(h:Prs C cK H M Ss Zs)(hm:hd∈M)(n1:∀S∈Ss,hd∉BT S)(n2:∀Z∈Zs,hd∉Bx Z):Prs C cK (upd H hd (.lst ys)) M Ss Zs:=
 #[λS hS=>(h.h S hS).poke hm (n1 S hS),λi S Z h1 h2=>(h.b i S Z h1 h2).poke hm (n1 S (zAJ h1)) (n2 Z (zAJ h2)),h.zz,h.zs,λZ hZ c hc=>by rw[Af λe=>n2 Z hZ (by rw[<-e];exact hc)];exact h.zf Z hZ c hc,TJ h.fr,Sb h.nt]
structure db(C cK:Addr)(G:Hp)(hl zl x0 x1 z0 z1:Addr)(m0:Nat)(M:%[|3])(H:Hp)(S:HSt)(Z:Mz)(n:Nat)(S':HSt)(Z':Mz)(n':Nat):Prop where
 t:Two C cK M H S Z n S' Z' n'
 s:A0B G (A1 M H)
 ex0:S.x=x0
 ex1:S'.x=x1
 ez0:Z.st=z0
 ez1:Z'.st=z1
 em0:m0<=S.m
 em1:m0<=S'.m
 ehl:H hl=some (.lst [.ref x0,.ref x1])
 ezl:H zl=some (.lst [.ref z0,.ref z1])
 ow:∀c,c=hl\/c=zl->c∈M/\¬(c∈BT S\/c∈Bx Z)/\¬(c∈BT S'\/c∈Bx Z')
inductive A1J(C cK:Addr)(G:Hp)(hl zl x0 x1 z0 z1:Addr)(m0 N:Nat)(M:%[|3])(H:Hp):Prop where
 |mk (S Z n S' Z' n') (_:db C cK G hl zl x0 x1 z0 z1 m0 M H S Z n S' Z' n') (_:n<=N) (_:n'<=N)
theorem J1(g:Go2 C cK M H S Z n M' H' S' Z')(hm:c∈M)(no:¬(c∈BT S\/c∈Bx Z))(e:H c=some o):H' c=some o/\¬(c∈BT S'\/c∈Bx Z'):=by
 refine#[(g.out c hm (λz=>no (.inl z)) λz=>no (.inr z)).trans e,λz=>?_];rcases g.nw c z with h|h
 ·exact no h
 ·rw[e]at h;cases h
section
variable {G:Hp}{hl zl x0 x1 z0 z1:Addr}{m0 k k':Nat}
theorem A1J.keep(s:A0B H H')(r:%[|87] k M H):%[|87] k M H':=by
 obtain⟨S,Z,n,S',Z',n',r,h1,h2⟩:=r;exact#[S,Z,n,S',Z',n',#[r.t.keep s,r.s.trans (Aj s),r.ex0,r.ex1,r.ez0,r.ez1,r.em0,r.em1,s _ _ r.ehl,s _ _ r.ezl,r.ow],h1,h2]
theorem A1J.mono(h:k<=k')(r:%[|87] k M H):%[|87] k' M H:=by
 obtain⟨S,Z,n,S',Z',n',r,h1,h2⟩:=r;exact#[S,Z,n,S',Z',n',r,zAC h1 h,zAC h2 h]
theorem A1J.here(r:%[|87] k M H):A1J C cK (A1 M H) hl zl x0 x1 z0 z1 m0 k M H:=by
 obtain⟨S,Z,n,S',Z',n',r,h1,h2⟩:=r;exact#[S,Z,n,S',Z',n',#[r.t,A0B.refl _,r.ex0,r.ex1,r.ez0,r.ez1,r.em0,r.em1,r.ehl,r.ezl,r.ow],h1,h2]
theorem A1J.at(r:%[|87] k M H){j:Nat}(hj:j<2):H hl=some (.lst [.ref x0,.ref x1])/\H zl=some (.lst [.ref z0,.ref z1])/\A0B G (A1 M H)/\Fb λ(S:HSt)(Z:Mz)(n:Nat)=>Zw (%[|69]) (DR [V.ref x0,V.ref x1] (j:Int)=some (.ref S.x)) (DR [V.ref z0,V.ref z1] (j:Int)=some (.ref Z.st)) (m0<=S.m) (n<=k) (∀M' H'(S2:HSt)(Z2:Mz),Go2 C cK M H S Z n M' H' S2 Z2->%[|87] (k+1) M' H'):=by
 obtain⟨S,Z,n,S',Z',n',r,h1,h2⟩:=r;refine#[r.ehl,r.ezl,r.s,?_];rcases (show j=0\/j=1 by omega)with rfl|rfl
 ·refine#[S,Z,n,r.t.b0,by rw[r.ex0];exact Ac (j:=0) rfl,by rw[r.ez0];exact Ac (j:=0) rfl,r.em0,h1,λM' H' S2 Z2 g=>?_];obtain⟨a1,a2,a3⟩:=r.ow hl (.inl rfl);obtain⟨c1,c2,c3⟩:=r.ow zl (.inr rfl);obtain⟨e1,e2⟩:=J1 g a1 a2 r.ehl;obtain⟨f1,f2⟩:=J1 g c1 c2 r.ezl
  exact#[S2,Z2,n+1,S',Z',n',#[r.t.go g,r.s.trans g.s,g.x.trans r.ex0,r.ex1,g.st.trans r.ez0,r.ez1,by rw[g.m];exact r.em0,r.em1,e1,f1,λc hc=>by
   rcases hc with rfl|rfl
   ·exact#[g.sub _ a1,e2,a3]
   ·exact#[g.sub _ c1,f2,c3]],by omega,by omega]
 ·refine#[S',Z',n',r.t.b1,by rw[r.ex1];exact Ac (j:=1) rfl,by rw[r.ez1];exact Ac (j:=1) rfl,r.em1,h2,λM' H' S2 Z2 g=>?_];obtain⟨a1,a2,a3⟩:=r.ow hl (.inl rfl);obtain⟨c1,c2,c3⟩:=r.ow zl (.inr rfl);obtain⟨e1,e2⟩:=J1 g a1 a3 r.ehl;obtain⟨f1,f2⟩:=J1 g c1 c3 r.ezl
  exact#[S,Z,n,S2,Z2,n'+1,#[(r.t.swap.go g).swap,r.s.trans g.s,r.ex0,g.x.trans r.ex1,r.ez0,g.st.trans r.ez1,r.em0,by rw[g.m];exact r.em1,e1,f1,λc hc=>by
   rcases hc with rfl|rfl
   ·exact#[g.sub _ a1,a2,e2]
   ·exact#[g.sub _ c1,c2,f2]],by omega,by omega]
end
theorem PU:∀(ts:List Tr){a b:List Int},(∀k∈a,k∈b)->∀k∈ts.foldl (λr t=>r.filter λk=>tv t k == true) a,k∈ts.foldl (λr t=>r.filter λk=>tv t k == true) b
 |[],_,_,h=>h
 |_::ts,_,_,h=>PU ts λk hk=>List.mem_filter.mpr #[h k (List.mem_filter.mp hk).1,(List.mem_filter.mp hk).2]
theorem Qh(h:AY m ts≠[])(l:m<=m2):AY m2 ts≠[]:=by
 obtain⟨k,hk⟩:=List.exists_mem_of_ne_nil _ h;have:2^m<=2^m2:=Nat.pow_le_pow_right %[|2] l;exact List.ne_nil_of_mem (PU ts (λk hk=>by have:=A1V.mp hk;exact A1V.mpr #[this.1,by omega]) k hk)
theorem Dd.Ok.mono{D:Dd}{m m':Nat}(h:D.Ok m H)(l:m<=m'):D.Ok m' H:=by
 cases D with
 |lrn i k=>exact h
 |beg nm kd rl v t=>exact#[h.1,h.2.1,h.2.2.1,h.2.2.2.1,h.2.2.2.2.1.mono l,h.2.2.2.2.2]
 |frk k nm=>exact h
 |say k v t=>exact#[h.1,h.2.1,h.2.2.1.mono l,h.2.2.2]
 |bck k=>exact h
 |edd k=>exact h
 |drp k=>exact h
end
theorem A0Z.get{H:Hp}{m:Nat}:∀{xs:List V}{Ds:List Dd}{i:Nat}{v:V},A0Z H m xs Ds->xs[i]? = some v->Cd λ(D:Dd)(r:Addr)=>BV (v=.ref r) (H r=some (.tup D.tup)) (D.Ok m H)
 |_,_,0,_,.cons ⟨r,e,h,h2⟩ _,hv=>#[_,r,by rw[<-zAH hv];exact e,h,h2]
 |_,_,i+1,_,.cons _ q,hv=>A0Z.get (i:=i) q hv
inductive KU(K:PySem.W.Frag)(vs:List V)(H:Hp)(Q:VK)(E:XK):Prop|mk(a:Addr)(ns:List Int)(_:vs=[.ref a])(_:SqL K H a %[|28])(_:ns.length<=63)(_:∀H',Q (.bl true) H')
section
variable {bz:Heap}{f:Addr}{fd:FuncData}
def A1C:=Au Y5 ["_law_script","_law_many","_law_counts","_law_standing_here","_law_houses","_law_states","_law_asked_here","_law_place","_law_deed_here","_law_way","_law_k","_law_name_here"] 1
theorem YD(de:%[|5])(F:Fun K "law" "law" Y5 f fd):EK P w K mg bz BC 29 f fd ["_law_script"] (KU K):=by
 refine F.ok A1C ?_;rintro dm A outer s H _ Q E hr ⟨a,ns,rfl,hS,h63,q⟩
 refine#[_,Aa (AC 1 A1C.nd (Ax (Yn de) hr Al (AI %[|74])))
  (Aa (AC 2 A1C.nd (Av (AN (pv 1) (pv 1))))
  (Aa (Aq (AM AH (Ap A4 %[|74] Ad) Ad)
   (Ak (AC 2 A1C.nd (Av (AN (pv 1) Ad))))
   Ah)
  (Aa (AC 3 A1C.nd (Av (AN (Ax (Fz de) hr Al (AN %[|74] (pv 1))) (Ax (Fz de) hr Al (AN %[|74] (Am Ay (pv 2) Ad))))))
  (Aa (Aq (AM AH (Ap A4 %[|74] Ad) Ad)
   (Ak (B8 (Am Ay (pv 3) Ad) (B9 (pv 3) Ad HI)))
   Ah)
  (Aa (D6 (i:=4) A1C.nd rfl (Or.inl rfl) (N:=["_law_k","_law_counts","_law_standing_here"]) (js:=[none,some 2,some 3]) (cl:=[("_law_standing_here",s.heap.objs.size+2),("_law_counts",s.heap.objs.size+1)]) #[rfl,rfl,rfl,(by intro p hp;simp at hp;rcases hp with rfl|rfl<;>rfl),rfl,rfl,rfl] (%[|68] (AI Ad)) (λc1=>(Bo 0 (show (["_law_k","_law_counts","_law_standing_here"]:List Str).Nodup by decide +kernel))) (λc1=>Bk) (λc1=>(Yc (R9 de) hr CW (AN (Am Ay (pv 1) (pv 0)) (Am Ay (pv 2) (pv 0))))))
  (Aa (D6 (i:=5) A1C.nd rfl (Or.inl rfl) (N:=["_law_k","_law_counts","_law_standing_here"]) (js:=[none,some 2,some 3]) (cl:=[("_law_standing_here",s.heap.objs.size+2),("_law_counts",s.heap.objs.size+1)]) #[rfl,rfl,rfl,(by intro p hp;simp at hp;rcases hp with rfl|rfl<;>rfl),rfl,rfl,rfl] (%[|68] (AI Ad)) (λc1=>(Bo 0 (show (["_law_k","_law_counts","_law_standing_here"]:List Str).Nodup by decide +kernel))) (λc1=>Bk) (λc1=>(Ax (QZ de) hr Al (AN (Am Ay (pv 1) (pv 0)) (Am Ay (pv 2) (pv 0))))))
  (Aa (AC 6 A1C.nd (Ax (Fo de) hr Al (Ag %[|74] (AN Ad (pv 1)))))
  (Aa (AC 7 A1C.nd Ad)
  (Aa (BB zAR rfl (AT (Ax (QL de) hr Al (AN (pv 0) (pv 1)))) (Bo 8 A1C.nd)
   (Aa (AC 9 A1C.nd (Ap A4 (Ap Bf (Ax (Cz de) hr Al (AN (pv 0) (pv 7))) Ad) Ad))
   (Aa (AC 7 A1C.nd (Ap C2 (pv 7) Ad))
   (Aa (BB zAR rfl (%[|68] (AI Ad)) (Bo 10 A1C.nd)
    (Ak (Aq (AM ER (pv 9) (pv 10))
     (Ak (Aq (Ct (Bv (Ax (Mm de) hr Al (Ag (Am Ay (pv 4) (pv 10)) (AN (Am Ay (pv 5) (pv 10)) (pv 8))))))
      (AX BN)
      Ah))
     Ah)))
   (Aa (As (A7 (B0 (Am Ay (pv 4) Ad) de.HX.cl (DZ de) hr Al) (AI Ad)))
   (Ak (As (A7 (B0 (Am Ay (pv 4) Ad) de.HX.cl (Ls de) hr Al) (AI Ad)))))))))
  (Aa (BB zAR rfl (%[|68] (AI Ad)) (Bo 10 A1C.nd)
   (Aa (BB zAR rfl (AT (B0 (Am Ay (pv 4) (pv 10)) de.HX.cl (IV de) hr Al)) (Bo 11 A1C.nd)
    (Aa (As (A7 (By (Am Ay (pv 4) (pv 10)) de.HX.cl (Go de) hr CW (AI (pv 11))) (AI Ad)))
    (Ak (As (A7 (By (Am Ay (pv 4) (pv 10)) de.HX.cl (KA de) hr CW (AI (pv 11))) (AI Ad))))))
   (Ak (Aq (Ct (Bv (Ax (Qu de) hr Al (Ag (Am Ay (pv 4) (pv 10)) (AN (Am Ay (pv 5) (pv 10)) (pv 6))))))
    (AX BN)
    Ah))))
  (AX BN))))))))))),?_]
 refine#[a,ns,0,rfl,hS,h63,by decide,by decide,λn0 H0 hn0 s0=>?_];refine#[_,rfl,hn0,λm H1 dZ dR s1=>?_];have t1:=s0.trans s1;refine#[C4,λc0 hc0=>?_];have s2:=Ab hc0 (.lst [.int m,.int m]);have c02:upd H1 c0 (.lst [.int m,.int m]) c0=some (.lst [.int m,.int m]):=A0A;generalize upd H1 c0 (.lst [.int m,.int m])=H2 at*;refine Da (λσ' H'=>Cd λ(cl:Addr)(m2:Nat)=>Il (σ'=[some (.ref a),some (.int m),some (.ref cl),none,none,none,none,none,none,none,none,none]) (A0B H1 H') (H' cl=some (.lst [.int m,.int m2])) (m<=m2) (m2<=5)) ?_ (λgo=>?_)
 rotate_left
 ·refine#[a,ns,7,rfl,(t1.trans s2).seq hS,h63,by decide,by decide,λn7 H3 hn7 s3=>#[(by show (0:Int)<3;decide),rfl,Cb (λ_=>?_) (λ_=>?_)]]
  ·refine#[C4,λc1 hc1=>?_];exact go _ _ #[c1,5,rfl,s2.trans (s3.trans (Ab hc1 _)),A0A,dR,by decide]
  ·exact go _ _ #[c0,m,rfl,s2.trans s3,s3 _ _ c02,zAA _,dR]
 rintro σ1 H3 ⟨cl,m2,rfl,s3,fR,dU,hm25⟩;have t3:=t1.trans s3;refine#[a,ns,1,rfl,t3.seq hS,h63,by decide,by decide,λn1 H4 ji s4=>?_];refine#[n1,m,rfl,ji,dZ,dR,λst xs ts H5 s5 st0 eG hP hok dj dB=>?_];have t5:=t3.trans (s4.trans s5);refine#[a,ns,3,rfl,t5.seq hS,h63,by decide,by decide,λn3 H6 hn3 s6=>?_];have s36:=s4.trans (s5.trans s6);refine#[SqL.of (s36 _ _ fR),Ac (j:=1) rfl,n3,m2,rfl,hn3,by omega,hm25,λsv xv tv H7 s7 sv0 hsv hPv hokv hlenv hnev=>?_];have kJ:=s6.trans s7;refine#[C4,λsl d3=>?_];have s8:=Ab d3 (.lst [.ref st,.ref sv]);have sl8:upd H7 sl (.lst [.ref st,.ref sv]) sl=some (.lst [.ref st,.ref sv]):=A0A;have sl7:=d3;generalize upd H7 sl (.lst [.ref st,.ref sv])=H8 at*;have jZ:∀t∈ts,t.ok 5/\t.size<=23:=λt ht=>#[(hok t ht).2.1,(hok t ht).2.2]
 have hokv5:∀t∈tv,t.ok 5/\t.size<=23:=λt ht=>#[(hokv t ht).2.1,(hokv t ht).2.2]
 refine Da (λσ' H'=>Fb λ(su:Addr)(xu:List V)(tu:List Tr)=>cp (σ'=[some (.ref a),some (.int m),some (.ref cl),some (.ref sl),none,none,none,none,none,none,none,none]) (A0B H7 H') (H' sl=some (.lst [.ref st,.ref su])) (H' su=some (.lst xu)) (A0J H' xu tu) (∀t∈tu,t.ok m2/\t.ok 5/\t.size<=23) (tu.length<=3) (AY m2 tu≠[])) ?_ (λgo=>?_)
 rotate_left
 ·refine#[a,ns,7,rfl,(t5.trans (kJ.trans s8)).seq hS,h63,by decide,by decide,λn7 H9 hn7 s9=>#[(by show (0:Int)<3;decide),rfl,Cb (λ_=>?_) (λ_=>?_)]]
  ·have sl9:=s9 _ _ sl8;have sm:A0B H7 (upd H9 sl (.lst [.ref st,.ref st])):=Ao (s8.trans s9) sl7 _;exact#[SqL.of sl9,Ac (j:=0) rfl,sl,_,1,1,rfl,rfl,sl9,rfl,go _ _ #[st,xs,ts,rfl,sm,A0A,(kJ.trans sm) _ _ eG,hP.keep (TS.same (kJ.trans sm)),λt ht=>#[(hok t ht).1.mono dU,(hok t ht).2],dj,Qh dB dU]]
  ·exact go _ _ #[sv,xv,tv,rfl,s8.trans s9,s9 _ _ sl8,(s8.trans s9) _ _ hsv,hPv.keep (TS.same (s8.trans s9)),hokv,hlenv,hnev]
 rintro σ2 H9 ⟨su,xu,tu,rfl,s9,hsl9,hsu,hPu,hoku,hlenu,hneu⟩;have s59:=kJ.trans s9;have t9:=t5.trans s59;have hcl9:=(s36.trans (s7.trans s9)) _ _ fR;have S9:=t9.seq hS;obtain⟨D,D0,D1⟩:∃D:Nat->Nat×List Tr,D 0=(m,ts)/\D 1=(m2,tu):=#[λi=>if i=0 then (m,ts)else (m2,tu),rfl,rfl]
 have fT:∀j:Nat,j<2->TN λ(mk:Nat)(sk:Addr)(xk:List V)(tk:List Tr)=>ag (D j=(mk,tk)) (DR [V.int m,V.int m2] (j:Int)=some (.int mk)) (DR [V.ref st,V.ref su] (j:Int)=some (.ref sk)) (H9 sk=some (.lst xk)) (A0J H9 xk tk) (∀t∈tk,t.ok mk/\t.ok 5/\t.size<=23) (tk.length<=3) (AY mk tk≠[]) (1<=mk) (mk<=5):=λj hj=>by
  rcases (show j=0\/j=1 by omega)with rfl|rfl
  ·exact#[m,st,xs,ts,D0,Ac (j:=0) rfl,Ac (j:=0) rfl,s59 _ _ eG,hP.keep (TS.same s59),hok,dj,dB,dZ,dR]
  ·exact#[m2,su,xu,tu,D1,Ac (j:=1) rfl,Ac (j:=1) rfl,hsu,hPu,hoku,hlenu,hneu,by omega,hm25]
 refine#[by decide,by decide,λcc hl gM=>Bn (n:=2) (λj σ Hj=>Fb λ(v0:Option V)(Ss:List HSt)(M:%[|3])=>Zw (σ=[v0,some (.ref cl),some (.ref sl)]) (Hous cH cK H9 Hj M D Ss) (Ss.length=j) (Hj hl=some (.lst (Ss.map λS=>V.ref S.x))) (hl∈M) (∀S∈Ss,hl∉BT S)) #[_,[],[hl],rfl,#[Ab gM _,(λS hS=>nomatch hS),(λi S hi=>by simp at hi),List.Pairwise.nil,λb hb=>?_,λb hb=>?_,λb hb ys=>?_],rfl,A0A,by simp,(λS hS=>nomatch hS)] ?_ ?_]
 ·rw[List.mem_singleton.mp hb,A0A];intro z;cases z
 ·rw[List.mem_singleton.mp hb];exact gM
 ·rw[List.mem_singleton.mp hb,A0A];intro z;cases z
 ·rintro j σ Hj hj ⟨v0,Ss,M,rfl,hh,hlj,hhj,hlM,hlS⟩;rw[zB9];obtain⟨mk,sk,xk,tk,eD,a1,a2,hsk,hPk,hokk,jm,hnk,hmk1,gj⟩:=fT j hj;have sj:=hh.s;refine AD #[SqL.of (sj _ _ hcl9),a1,SqL.of (sj _ _ hsl9),a2,λx dx hx i9 ja=>?_];have sM:A0B Hj (upd (upd Hj dx (.own x)) x (.ins cH dx [])):=(Ab i9 _).trans (Ab (by rw[Af ja.symm];exact hx) _);refine#[x,dx,sk,mk,xk,tk,rfl,A0A,sM _ _ (sj _ _ hsk),A0J.keep (TS.same (sj.trans sM)) hPk,λt ht=>(hokk t ht).2,by omega,hmk1,gj,λ⟨t,ht,hn⟩=>absurd (hokk t ht).1 hn,λ_ he=>absurd he hnk,λ_ _ U H5 b5 jS mk0 tk0 jW hx5 jg hmk5' ib ie=>#[rfl,?_]];have s5:A0B Hj H5:=CT hx i9 ja b5;obtain⟨sp4,gi,_⟩:=Ce (C:=cH) jS;obtain⟨mk4,nmkx,_⟩:=Ce (C:=cH) mk0;obtain⟨ln4,nlnx,_⟩:=Ce (C:=cH) jW;obtain⟨tk4,ntkx,_⟩:=Ce (C:=cH) tk0;obtain⟨jX,_,nt5⟩:=Q9 (C:=cH) (cK:=cK) s5 hx tk4 ln4 gi nmkx hmk1 gj hnk hx5 jg hmk5' ib ie;have hN:∀b∈[x,U.ln,U.tk],Hj b=none:=Ca hx ln4 tk4;have nhl:hl∉[x,U.ln,U.tk]:=λz=>by have:=hN hl z;rw[hhj]at this;cases this
  have hh5:=hh.add (S:=#[x,U,mk,AY mk tk,List.replicate mk none,[.str (BQ mk tk)],[]]) s5 rfl hN sp4 mk4 jX nt5 (by rw[hlj,eD];exact#[rfl,rfl,rfl,rfl,rfl])
  have hlS5:∀S∈Ss++[(#[x,U,mk,AY mk tk,List.replicate mk none,[.str (BQ mk tk)],[]]:HSt)],hl∉BT S:=λS hS=>by
   rcases List.mem_append.mp hS with z|z
   ·exact hlS S z
   ·rw[List.mem_singleton.mp z];exact nhl
  refine#[_,s5 _ _ hhj,An %[|58],_,_,_,rfl,hh5.poke (zAE _ hlM) hlS5,by rw[zA,hlj];rfl,?_,zAE _ hlM,hlS5];rw[A0A,List.map_append];rfl
 rintro σ fV ⟨v0,Ss,M,rfl,hh,hlj,hhj,hlM,hlS⟩;refine Dz rfl ?_;obtain⟨S0,S1,rfl⟩:Cd λS0 S1=>Ss=[S0,S1]:=match Ss,hlj with|[S0,S1],_=>#[S0,S1,rfl]
 have nw0:=hh.nw 0 S0 rfl;have nw1:=hh.nw 1 S1 rfl;have ap:=hh.ap;refine#[by decide,by decide,λcc zl jx=>Bn (n:=2) (λj σ Hj=>Fb λ(v0:Option V)(Zs:List Mz)(M':%[|3])=>Wq (σ=[v0,some (.ref cl),some (.ref sl)]) (Prs cH cK Hj M' [S0,S1] Zs) (A0B H9 Hj) (∀b∈M',H9 b=none) (Zs.length=j) (Hj zl=some (.lst (Zs.map λZ=>V.ref Z.st))) (Hj hl=some (.lst [.ref S0.x,.ref S1.x])) (zl∈M') (hl∈M') (∀S∈[S0,S1],zl∉BT S) (∀Z∈Zs,zl∉Bx Z/\hl∉Bx Z)) #[_,[],[zl]++M,rfl,#[λS hS=>(hh.h S hS).plus (Ab jx _) (by simpa using jx) (by simp[A0A]),(λi S Z _ h2=>by simp at h2),List.Pairwise.nil,(λZ hZ=>nomatch hZ),(λZ hZ=>nomatch hZ),GV (Ab jx _) hh.fr (by simp[A0A]),λb hb ys e=>?_],hh.s.trans (Ab jx _),λb hb=>?_,rfl,A0A,(Ab jx _) _ _ hhj,by simp,zAE _ hlM,λS hS z=>?_,(λZ hZ=>nomatch hZ)] ?_ ?_]
 ·rcases List.mem_append.mp hb with z|z
  ·rw[List.mem_singleton.mp z,A0A]at e;cases e
  ·exact hh.nt.keep (Ab jx _) hh.fr b z ys e
 ·rcases List.mem_append.mp hb with z|z
  ·rw[List.mem_singleton.mp z];exact hh.s.free jx
  ·exact hh.off b z
 ·exact hh.fr _ (EM (hh.h S hS) _ z) jx
 ·rintro j σ Hj hj ⟨v1,Zs,M',rfl,pp,sj,off,hlz,hzj,hhlj,zM,hM,zS,zZ⟩;rw[zB9];obtain⟨mk,sk,xk,tk,eD,a1,a2,hsk,hPk,hokk,jm,hnk,hmk1,gj⟩:=fT j hj;refine AD #[SqL.of (sj _ _ hcl9),a1,SqL.of (sj _ _ hsl9),a2,sk,mk,xk,tk,rfl,sj _ _ hsk,hPk.keep (TS.same sj),λt ht=>(hokk t ht).2,by omega,hmk1,gj,λzt r mka tl ln H5 s5 zt0 r0 mk0 tl0 jW hzt gC d9 ir fw=>?_];obtain⟨S,hS⟩:∃S,[S0,S1][j]? = some S:=#[_,List.getElem?_eq_getElem (show j < [S0,S1].length from hj)];have nS:=hh.nw j S hS;rw[eD]at nS;have hB:=SC (m:=mk) (ts:=tk) (pp.h S (zAJ hS)) nS.m nS.room nS.marks nS.ls nS.ts s5 zt0 r0 mk0 tl0 jW hzt gC d9 ir fw;have hN:∀b∈[zt,tl,ln],Hj b=none:=Ca zt0 tl0 jW
  have ntN:A1F [zt,tl,ln] H5:=λb hb ys e=>by
   simp only[zAD,zAB,or_false]at hb;rcases hb with rfl|rfl|rfl
   ·rw[hzt]at e;cases e
   ·rw[ir]at e;cases e
   ·rw[fw]at e;cases e
  have p5:=pp.add (Z:=Iq zt r mka tl ln mk tk) s5 rfl hN (by rw[hlz];exact hS) hB ntN;have nz:∀{b:Addr},Hj b≠none->b∉[zt,tl,ln]:=λh z=>h (hN _ z)
  have zZ5:∀Z∈Zs++[Iq zt r mka tl ln mk tk],zl∉Bx Z/\hl∉Bx Z:=λZ hZ=>by
   rcases List.mem_append.mp hZ with z|z
   ·exact zZ Z z
   ·rw[List.mem_singleton.mp z];exact#[nz (by rw[hzj];intro z;cases z),nz (by rw[hhlj];intro z;cases z)]
  have nhz:hl≠zl:=λe=>by rw[e]at hhj;rw[hhj]at jx;cases jx
  refine#[_,s5 _ _ hzj,An %[|58],_,_,_,rfl,p5.poke (zAE _ zM) zS λZ hZ=>(zZ5 Z hZ).1,Ao (sj.trans s5) (off zl zM) _,λb hb=>?_,by rw[zA,hlz];rfl,?_,?_,zAE _ zM,zAE _ hM,zS,zZ5]
  ·exact (List.mem_append.mp hb).elim (λz=>sj.free (hN b z)) (off b)
  ·rw[A0A,List.map_append];rfl
  ·rw[Af nhz];exact s5 _ _ hhlj
 rintro σ gm ⟨v1,Zs,M0,rfl,pp,s911,off,hlz,hzj,hhl11,zM,hM,zS,zZ⟩;refine Dz rfl ?_;obtain⟨Z0,Z1,rfl⟩:Cd λZ0 Z1=>Zs=[Z0,Z1]:=match Zs,hlz with|[Z0,Z1],_=>#[Z0,Z1,rfl]
 have tw:=pp.two ap;have nt11:=pp.nt
 have rx:A1J cH cK H9 hl zl S0.x S1.x Z0.st Z1.st m 0 M0 gm:=#[S0,Z0,0,S1,Z1,0,#[tw,λb o e=>AW (s911 _ _ e) (λz=>by rw[off b z]at e;cases e),rfl,rfl,rfl,rfl,by rw[nw0.m,D0];exact zAA _,by rw[nw1.m,D1];exact dU,hhl11,hzj,λc hc=>by
  rcases hc with rfl|rfl
  ·exact#[hM,λz=>z.elim (hlS S0 %[|1]) (zZ Z0 %[|1]).2,λz=>z.elim (hlS S1 %[|1]) (zZ Z1 %[|1]).2]
  ·exact#[zM,λz=>z.elim (zS S0 %[|1]) (zZ Z0 %[|1]).1,λz=>z.elim (zS S1 %[|1]) (zZ Z1 %[|1]).1]],zAA _,zAA _]
 have fr11:=pp.fr;clear tw pp hh fT hS hPu hP hPv;refine#[a,ns,2,rfl,s911.seq S9,h63,by decide,by decide,λn2 i8 iw eE=>?_];refine#[n2,8,m,rfl,iw,by decide,by decide,dZ,dR,λv t jt fj hv hvok hvsz=>?_];refine#[a,ns,m,rfl,(s911.trans (eE.trans fj)).seq S9,h63,dZ,dR,λdl dxs Ds fk fv dl0 jj hDs hdn=>?_];have ei:=eE.trans (fj.trans fv);have r14:=rx.keep ei;have nt14:A1F M0 fk:=nt11.keep ei fr11;have dlM:dl∉M0:=λz=>fr11 dl z ((eE.trans fj).free dl0)
 have dl14:A1 M0 fk dl=some (.lst dxs):=AW jj dlM;have D14:A0Z (A1 M0 fk) m dxs Ds:=hDs.keep nt14.ts;have v14:t.At (A1 M0 fk) v:=(hv.keep (TS.same fv)).keep nt14.ts;have S14:SqL K (A1 M0 fk) a %[|28]:=(show A0B H9 (A1 M0 fk) fromλb o e=>AW ((s911.trans ei) _ _ e) (λz=>by rw[off b z]at e;cases e)).seq S9;refine#[#[_,SqL.of (A0D _ _ dl14)],A0 (K:=K) (a:=dl) (xs:=dxs) (λi σ Hi=>TN λ(v8 v9 iS:Option V)(M:%[|3])=>σ=[some (.ref a),some (.int m),some (.ref cl),some (.ref sl),some (.ref hl),some (.ref zl),some v,some (.int (7+(i:Int))),v8,v9,iS,none]/\A1J cH cK (A1 M0 fk) hl zl S0.x S1.x Z0.st Z1.st m (2*i) M Hi) #[_,_,_,M0,rfl,?_] ?_ ?_ ?_]
 ·exact (r14.here).mono (zA5 _)
 ·rintro i σ Hi _ ⟨v8,v9,iS,M,rfl,r⟩;exact SqL.of (A0D _ _ ((r.at (j:=0) %[|2]).2.2.1 _ _ dl14))
 ·rintro i y σ Hi hy ⟨v8,v9,iS,M,rfl,r⟩;have hi:i<dxs.length:=%[hy|117].1;obtain⟨D,da,rfl,hda,hDk⟩:=A0Z.get D14 hy;obtain⟨_,_,sc,_⟩:=r.at (j:=0) %[|2];refine#[a,ns,7+(i:Int),rfl,A0D.seq (sc.seq S14),h63,by omega,by omega,λnn Hj jd sj=>?_];refine#[%[|43],(by show (0:Int)<3;decide),?_];have rj:=r.keep sj;have e8:(7:Int)+(i:Int)+1=7+((i+1:Nat):Int):=by omega
  refine#[by decide,by decide,Bn (n:=2) (λj σ Hk=>Cd λ(iS:Option V)(M':%[|3])=>σ=[some (.ref a),some (.int m),some (.ref cl),some (.ref sl),some (.ref hl),some (.ref zl),some v,some (.int (7+(i:Int)+1)),some (.ref da),some (.int (nn / 11%3)),iS,none]/\A1J cH cK (A1 M0 fk) hl zl S0.x S1.x Z0.st Z1.st m (2*i+j) M' Hk) #[_,M,rfl,rj] ?_ ?_]
  ·rintro j σ Hk hj ⟨iS,M',rfl,rk⟩;rw[zB9];obtain⟨kl,kz,ks,S,Z,n,bb,iR,at2,ml,nl,gg⟩:=rk.at hj;refine#[rfl,Cb (λ_=>?_) (λ_=>?_)]
   ·refine#[SqL.of kl,iR,SqL.of kz,at2,M',S,Z,n,D,da,rfl,ks _ _ hda,bb,by omega,(hDk.keep (TS.same ks)).mono ml,λM2 H2 S2 Z2 g=>Aw #[_,M2,rfl,gg M2 H2 S2 Z2 g]]
   ·exact#[_,M',rfl,rk.mono %[|0]]
  ·rintro σ Hk ⟨iS,M',rfl,rk⟩;obtain⟨kl,kz,ks,S,Z,n,bb,iR,at2,ml,nl,_⟩:=rk.at (j:=0) %[|2];refine#[SqL.of kl,iR,bb.h.h.ob,Fg,S.x,M',S.U,S.m,S.room,S.marks,S.ls,rfl,bb.h.h,λl1 H1 s1 l10 eC=>#[.inl #[rfl,_,SqL.of eC],eC,An ?_,?_]]
   ·rw[List.length_map];exact zAC (zAV _ _) (zAC bb.h.h.wr.len %[|2])
   have sa:A0B Hk (upd H1 l1 (.lst ((S.room.filter (Dg S.marks)).map V.int++[.int 0]))):=Ao s1 l10 _;generalize upd H1 l1 (.lst ((S.room.filter (Dg S.marks)).map V.int++[.int 0]))=H2 at*;have b2:=bb.keep sa;refine#[SqL.of (sa _ _ kl),iR,b2.h.h.ob,Oh,S.x,S.U,S.m,S.room,rfl,b2.h.h.ob,A0D _ _ b2.h.h.sp,λl2 H3 s3 kF dG=>#[.inl #[rfl,_,SqL.of dG],dG,An ?_,?_]]
   ·rw[List.length_map];exact zAC bb.h.h.wr.len %[|2]
   exact#[_,_,_,M',by rw[<-e8],(rk.keep (sa.trans (Ao s3 kF _))).mono %[|0]]
 ·rintro σ Hi ⟨v8,v9,iS,M,rfl,r⟩;obtain⟨_,_,sc,_⟩:=r.at (j:=0) %[|2];have vi:t.At Hi v:=v14.keep (TS.same (sc.trans A0D));refine#[by decide,by decide,Bn (n:=2) (λj σ Hj=>Cd λ(iS kL:Option V)=>σ=[some (.ref a),some (.int m),some (.ref cl),some (.ref sl),some (.ref hl),some (.ref zl),some v,some (.int (7+(dxs.length:Int))),v8,v9,iS,kL]/\A0B Hi Hj) #[_,_,rfl,A0B.refl _] ?_ ?_]
  ·rintro j σ Hj hj ⟨iS,kL,rfl,sj⟩;rw[zB9];obtain⟨kl,kz,_,S,Z,n,bb,iR,at2,ml,nl,_⟩:=(r.keep sj).at hj;refine#[SqL.of kl,iR,bb.h.h.ob,LX,M,S,rfl,bb.h,λnl H1 s1 nl0 fq=>?_];refine#[#[_,SqL.of fq],A0 (K:=K) (a:=nl) (xs:=(CM S.ts).map V.str) (λi σ Hk=>∃(kL:Option V),σ=[some (.ref a),some (.int m),some (.ref cl),some (.ref sl),some (.ref hl),some (.ref zl),some v,some (.int (7+(dxs.length:Int))),v8,v9,some (.int (j:Int)),kL]/\A0B H1 Hk) #[_,rfl,A0B.refl _] ?_ ?_ ?_]
   ·rintro i σ Hk _ ⟨kL,rfl,sk⟩;exact SqL.of (sk _ _ fq)
   ·rintro i y σ Hk hy ⟨kL,rfl,sk⟩;rw[List.getElem?_map]at hy;obtain⟨nm,hnm,rfl⟩:=Option.map_eq_some_iff.mp hy;have fG:=zAJ hnm;have kc:=s1.trans sk;have bk:=bb.keep kc;refine#[SqL.of (kc _ _ kl),iR,bk.h.h.ob,Ho,M,S,nm,rfl,bk.h,λc=>absurd fG c,λq2 h2 e2 l1 H2 s2 l10 eC=>#[.inl #[rfl,_,SqL.of eC],eC,An ?_,?_]]
    ·have tq:=(bb.h.tt q2 h2).1;have:=tq.e9;rw[<-A0K.len tq.en]at this;omega
    have sa:A0B Hk (upd H2 l1 (.lst (q2.u.ges++[.int 5]))):=Ao s2 l10 _;generalize upd H2 l1 (.lst (q2.u.ges++[.int 5]))=H3 at*;have b3:=bk.keep sa;refine#[SqL.of ((kc.trans sa) _ _ kl),iR,b3.h.h.ob,Op,M,S,nm,rfl,b3.h,λc=>absurd fG c,λq3 h3 e3 l2 H4 s4 kF dG=>#[.inl #[rfl,_,SqL.of dG],dG,An ?_,?_]]
    ·rw[List.length_map];have:=((bb.h.tt q3 h3).1).held_len;omega
    exact#[_,rfl,sk.trans (sa.trans (Ao s4 kF _))]
   rintro σ Hk ⟨kL,rfl,sk⟩;have kc:=s1.trans sk;have bk:=bb.keep kc;exact#[SqL.of (kc _ _ kl),iR,SqL.of (kc _ _ kz),at2,M,S,Z,n,v,t,rfl,bk,by omega,vi.keep (TS.same (sj.trans kc)),hvok.mono ml,by omega,λH5 s5=>Aw #[_,_,rfl,sj.trans (kc.trans s5)]]
  ·rintro σ Hj ⟨iS,kL,rfl,sj⟩;exact q _
end
theorem tkx{K:PySem.W.Frag}(a:PySem.W.plainGet K c Str.empty=true)(b:PySem.W.hasDictIn K c=true)(d:PySem.W.plainOver K c=true)(e:findIn K (.ref c) "__setattr__"=some %[|93])(w0:findIn K (.ref c) "many"=some none)(w1:findIn K (.ref c) "kind"=some none)(w2:findIn K (.ref c) "sentence"=some none)(w3:findIn K (.ref c) "rule"=some none)(w4:findIn K (.ref c) "space"=some none)(w5:findIn K (.ref c) "parts"=some none)(w6:findIn K (.ref c) "given"=some none)(w7:findIn K (.ref c) "left"=some none)(w8:findIn K (.ref c) "ended"=some none):cw K c:=#[#[a,b,d,e],w0,w1,w2,w3,w4,w5,w6,w7,w8]
theorem hsx{K:PySem.W.Frag}(a:PySem.W.plainGet K c Str.empty=true)(b:PySem.W.hasDictIn K c=true)(d:PySem.W.plainOver K c=true)(e:findIn K (.ref c) "__setattr__"=some %[|93])(w0:findIn K (.ref c) "space"=some none)(w1:findIn K (.ref c) "many"=some none)(w2:findIn K (.ref c) "marks"=some none)(w3:findIn K (.ref c) "talks"=some none)(w4:findIn K (.ref c) "lines"=some none):ci K c:=#[#[a,b,d,e],w0,w1,w2,w3,w4]
theorem fx{K:PySem.W.Frag}{st:Stmt}{kV dc pm cd ct:Value}(X:K.In h)(G:h.Ns mainGlobals mg)(a:nsIn K mainGlobals n=some (some (.ref f)))(l:K.lookup f=some #[oc,od,.func (PySem.W.fnOf n n (DA st) (CB st) (A9 st) .none kV dc pm an cd ct),sl])(c:PySem.W.codeIn K cd n=true)(k:keepIn K (.ref f)=true):%[|7] n st:=#[_,_,Sd l c k,mg_of X G a,k]
theorem mx{K:PySem.W.Frag}{st:Stmt}{kV dc pm cd ct:Value}(a:findIn K (.ref C) n=some (some (.ref f)))(i:PySem.W.isFn K (.ref f)=true)(l:K.lookup f=some #[oc,od,.func (PySem.W.fnOf n q (DA st) (CB st) (A9 st) .none kV dc pm an cd ct),sl])(c:PySem.W.codeIn K cd q=true)(k:keepIn K (.ref f)=true):%[|23] C n q st:=#[_,_,Sd l c k,a,i,k]
theorem kf{K:PySem.W.Frag}(X:K.In h)(G:h.Ns mainGlobals mg)(a:nsIn K mainGlobals n=some (some (.ref c)))(b:PySem.W.makesIn K c=true)(k:keepIn K (.ref c)=true):KF K mg n c:=#[mg_of X G a,b,k]
theorem tx{K:PySem.W.Frag}(X:K.In h)(G:h.Ns mainGlobals mg)(zV:mg "ValueError"=none)(zI:mg "isinstance"=none)(xTn:nsIn K mainGlobals "TalkError"=some (some (.ref cT)))(xTc1:clsIn K cT=some XDT)(xTt:typeIn K (.ref cT)=some (.type "type"))(xTbse:mroIn K cT (.type "BaseException")=some true):aR K mg cT:=#[mg_of X G xTn,xTt,by rw[xTc1];rfl,xTbse,zV,zI]
theorem ox{K:PySem.W.Frag}(X:K.In h)(G:h.Ns mainGlobals mg)(xTl:K.lookup cT=some #[.type "type",xTdd,.cls {name:=xTnm,bases:=xTbs,mro:=.ref cT::Lr,ns:=NT,qualname:=xTq,hasDict:=xThd,slotNames:=xTsn,subclasses:=xTsub,abstract:=xTab,collection:=xTcol,hasDel:=false},#v[xTa,xTb,xTc,xTd,xTe,xTf]])(xTm:K.lookup NT=some #[xToc,xTod,.dict xTes xTep,xTsl])(nTs:(xTes.all (λe=>match e.key with|.str _ _=>true|_=>false))=true)(xTi:nsIn K NT "__init__"=some none)(nuV:PySem.W.kitMeta "ValueError"=true)(xcg:PySem.W.specialIn K %[|78] "__get__"=some (some (.builtin "getset_descriptor.__get__")))(xct:PySem.W.takesIn K %[|78]=some true)(xn0:nsIn K mainGlobals nm=some (some (.ref C)))(xl0:K.lookup C=some (excClassObj xnm0 xq0 C NC xbs0 (.ref cT::Lr) true xsn0 xsub0 xab0 xcol0 xdd0 xka0 xkb0 xkc0 xkd0 xkf0 "ValueError.__new__"))(xm0:K.lookup NC=some #[xoc0,xod0,.dict xes0 xep0,xsl0])(nxs0:(xes0.all (λe=>match e.key with|.str _ _=>true|_=>false))=true)(xi0:nsIn K NC "__init__"=some none)(xkp0:keepIn K (.ref C)=true)(xcd0:clsIn K C=some XD0)(nxm0:XD0.mro=.ref C::.ref cT::Lr)(nxd0:XD0.hasDict=true)(xsa0:findIn K (.ref C) "__setattr__"=some %[|93])(xga0:findIn K (.ref C) "__getattribute__"=some (some (.builtin "BaseException.__getattribute__")))(xgn0:findIn K (.ref C) "__getattr__"=some none)(xca0:findIn K (.ref C) "__class__"=some (some %[|78]))(xt0:typeIn K (.ref C)=some (.type "type"))(xb0:mroIn K C (.type "BaseException")=some true)(xs0:mroIn K C (.ref C)=some true)(xu0:mroIn K C (.ref cT)=some true)(xv0:PySem.W.subIn K (.ref C) (.type "ValueError")=some true):DQ K mg nm C cT:=#[#[#[_,xcd0,nxm0,nxd0],xsa0,xga0,xgn0,xca0,xcg,xct],TU xl0 xm0 nxs0 xi0 xTl xTm nTs xTi xkp0,mg_of X G xn0,xt0,by rw[xcd0];rfl,xb0,xs0,xu0,Zr nuV xv0]
theorem all_mk{l:PySem.W.OpenLaw}{fa:Addr}(hfa:mg "law"=some (.ref fa))(de:Ev l.prog w K mg tL dt du dM cK cH cT cL cW dg dn cN cO cG cS cB dr):∃fd:FuncData,(∀s v,BindsTo s fd #[[v],[]] [("_law_script",v)])/\∀bz:Heap,K.In bz->bz.Ns mainGlobals mg->EK l.prog w K mg bz BC 29 fa fd ["_law_script"] (KU K):=by
 obtain⟨f96,d96,FLAW,a96,_⟩:=de.h96;have zz:=hfa.symm.trans a96;cases zz;obtain⟨oc,od,kV,dc,pm,an,cd,ct,sl,ed,_,_⟩:=FLAW.ex;refine#[d96,λs v=>?_,λbz _ _=>?_]
 ·subst ed;exact .of_eq rfl
 exact YD de FLAW
theorem walk{l:PySem.W.OpenLaw}{q:Program}{fY:List Str}{XP:(Str->%[|14])->Heap->Prop}{YP:World->Heap->Prop}{d:DefRec}{K:Params->PySem.W.Frag}(hn:l.most=some 63)(jD:d.params.defaults=[])(hY:∀(w:World) (h:Heap),YP w h->(K w.params).In h)(F:∀(w:World) (mg:Str->%[|14]) (fa:Addr) (h:Heap),(K w.params).In h->h.Ns mainGlobals mg->mg d.name=some (.ref fa)->
   ∃fd:FuncData,(∀(s:Shared) (u:Value),BindsTo s fd #[[u],[]] [("_law_script",u)])/\∀bz:Heap,(K w.params).In bz->bz.Ns mainGlobals mg->EK l.prog w (K w.params) mg bz BC 29 fa fd ["_law_script"] (KU (K w.params))):
  PySem.W.WalkO q fY XP YP l.row.toRowW d [] (λf vs=>PySem.call f vs):=
 L2.walk_of (n:=63) (k:=29) (x:="_law_script") (CX:=λ_=>BC) (sp:=λw=>KU (K w.params)) hn %[|2] jD #[rfl,by decide,by decide] hY F (λ_ _ a ns hl _ hS=>#[a,ns,rfl,hS,hl,λ_=>rfl]) λ_ _ _ _ _ z=>z
end Toy
namespace PySem.W.Fast
local macro_rules|`(universe $x)=>`(def $x:ident:=0)|`(universe $x $z*)=>`(def $x:ident:=0 universe $z*)
universe tw15406956614319332242 tw13271567253981939544 tw6170179795220947898 tw2609356489474436561 tw249340749072519264 tw16353025232966693102 tw9235112391712618477 tw522524720822401450 tw7767802316762100044 tw11351127680333639783 tw2109546940625670702 tw8291420908362581920 tw1966535113854632372 tw17215369227471649098 tw3112713895547550916 tw17996710837213840471 tw9874894708504095173 tw5920608636733929863 tw16792830164670340764 tw9381381616710288783 tw17680999859281751743 tw11973607079794286222 tw10834361077711654852 tw6872579817568708883 tw14625110372556549658 tw4960378789483218747 tw4077707110265316693 tw12241107111858308077 tw14921465616102223933 tw11778418752777129361 tw14382459119818165325 tw11273665510461258359 tw8784808808649846203 tw15959232178207339705 tw3524981111287421360 tw10342035566047513362 tw8766518801434268823 tw17254584984916618441 tw3119494585882463482 tw18254582426202236916
universe tw8392858540982577636 tw9116386114417840805 tw1271143075421244393 tw5291705212367917411 tw17877781366677346115 tw6046271339023367243 tw11645236106242401732 tw5432914201893675727 tw8555782182596355047 tw16088277286733583145 tw8775561765024175821 tw12013872963031661109 tw14034569656431236916 tw5104308951511180585 tw10077774101303671555 tw3823715628245648033 tw17299594175066645540 tw12595959151936357207 tw11106946826139125343 tw14396912767431331181 tw16286446593416598068 tw16512014283830630799 tw13538535669353906081 tw13251355350815820857 tw10287046007867336901 tw11106600132496209550 tw2866186987325131531 tw6979752008866523420 tw10211878033213596060 tw8386576319195154745 tw18378993463697838039 tw8476825396284384731 tw1679724154658284618 tw4634218022789341423 tw8781470151248757485 tw10997817193987455852 tw2723376203735708563 tw14002045780263956425 tw7467297039338544732 tw6311518898181898027
universe tw16926980327877354175 tw15525379961039385590 tw16228345520397319635 tw10669244363537391630 tw17635727504155258415 tw15681431890408419919 tw1924316898172028538 tw1301756055267803405 tw13024897436173321384 tw168809949975288676 tw9226330032530202489 tw13816126909651698018 tw15213100331903688895 tw800457488581309201 tw17543398485637715 tw13268821022763276850 tw3317058502246305597 tw8113879159752928986 tw9353141740317362302 tw18446382923266177776 tw17401306655435073060 tw10047179236070443001 tw13774223338082074538 tw12590889087667760460 tw14706569054529299584 tw10810366757700785632 tw11839132448864552859 tw17107239534677666524 tw14383680402592546292 tw17976257375110577166 tw8982068233980367883 tw17291558283381309564 tw16997583357875208595 tw10174885424452789306 tw2664727596175737559 tw5916282382778420524 tw9701688900552520107 tw15666344299240423689 tw5909943542598832266 tw14696893566780828483
universe tw17665508964923818069 tw60796611950843540 tw13296273112374613239 tw11804739437973011188 tw8118224170851446495 tw3512993367903970268 tw4935195282608364751 tw9408927396108983455 tw14113798194848617186 tw16491602484317209582 tw5699877675793129597 tw2960720791674793346 tw2448841396315474188 tw3143747487736035936 tw17889175450759266700 tw15089160614901445899 tw4324600118715175148 tw6430541101716509891 tw12853739268686697705 tw9171012726563054884 tw11192022870230922003 tw9200259134795054212 tw4840083288039783927 tw429179231225437399 tw1397130305078337402 tw9587353665183557060 tw4073918360703772096 tw17489334582692641086 tw1238530607959301194 tw12171236227651381516 tw11529347765505047856 tw12638183294200600582 tw5479378723829705349 tw4650154594019004725 tw2785924095309326630 tw8134474306595717367 tw4265703803151735125 tw16419716540184030614 tw18280999281404054043 tw10933630778035383244
universe tw17077116187752122531 tw11277830067677640778 tw2335142609083764460 tw11035646230703390225 tw93013540366926035 tw4824098805338379697 tw4331260146376805892 tw17305057677243890360 tw14402923339728621423 tw18335219729905504593 tw2209378778291047870 tw1102393199697150179 tw67019495904859483 tw11313741409893192230 tw8806100126698732357 tw12430691288623691988 tw308255408357208998 tw9165214450718824726 tw2457147002283726072 tw12418058308761582510 tw1586902189806538578 tw16130142861915959610 tw7820918756929737168 tw5508497919014197856 tw15084499296218255004 tw12366468713124733932 tw2970325832382034879 tw10595967978998954317 tw1970912112205465342 tw1932326770337943137 tw12181742626979022554 tw16295934169542841472 tw5454794860143524499 tw5424171195808089659 tw12320045809207268564 tw10315637239263827399 tw12968838861561020074 tw16485792333911347860 tw14426568980456412697 tw6045472597369042279
universe tw10651759239077733717 tw13333655694666934859 tw9366197233566353888 tw2347023784998894165 tw347457045787608893 tw2071488895515229904 tw15003435716000355070 tw2391324402666095984 tw667529371661292625 tw6369741371688547007 tw4460042379440293199 tw16686754622362516163 tw7022363200263203953 tw16126999170969431226 tw12327814344916632718 tw8424051398605323308 tw870760186281009732 tw12656934006632254230 tw16283970356231553011 tw18304524750166716957 tw10865998123550963845 tw15054253566991699090 tw3147209253602922936 tw10110335873933661006 tw11243652077596376696 tw484266573661849082 tw4218260688242474399 tw4956649000264921064 tw9276405688868291880 tw4348985452474099424 tw18179240564431019406 tw320867632961742473 tw13288079919457626338 tw13615773485565694641 tw5358281626367709757 tw8038329970095184487 tw17306077406671863508 tw3778539660402605853 tw4768466833879578571 tw15956721889424574438
universe tw13321221299911971427 tw9978707050973553043 tw12873368882600835788 tw1056911058375783506 tw7746301126013872088 tw15676552780320109839 tw15223580742418363211 tw6559500199357732501 tw6152048258342898619 tw11243252882433564457 tw4476125897934981256 tw5115966540848579544 tw17795397517319419181 tw1575941583024107752 tw14257965801846222805 tw17634582127065851459 tw17419239823705036188 tw18216737423230431801 tw7239734642571713213 tw9826068984798275914 tw15069496681576669865 tw9594924782165620341 tw15783026426463218079 tw2824751291606796390 tw5201375317051455886 tw5406012836833115883 tw5014315814735355050 tw3456140010426983744 tw11815217529868709699 tw14383932791828822090 tw6025682942573772228 tw15119007868196171654 tw14244311609049012644 tw418944904269524865 tw1371789599399883694 tw12668560044498848107 tw9304545908371177804 tw17795412374382907727 tw8858894786115919843 tw8739087335573004947
universe tw15387279240246720815 tw17659575929427168382 tw18234776638990074150 tw6027775932900954840 tw3342260843732055951 tw3171949834416995354 tw1550837773580348776 tw7322751000639216252 tw13524232254335516873 tw6059763581573608590 tw17510804507708514605 tw1526385720836383365 tw5437571429436925893 tw3195452850621146282 tw5077960832122111497 tw17849453870145808650 tw16409941132409549454 tw11476423490147594145 tw3041848867807837942 tw10574726279813140479 tw621621476132557997 tw13115990301628182069 tw16229148159929048684 tw10878873850885717388 tw17070351684386485570 tw8821932099299952890 tw10871346040138609823 tw15998746342701930138 tw17350476978253031201 tw8734887065162705241 tw12835104914352939492 tw18426354779184175035 tw6912386564941093894 tw13437634621232437988 tw11366037488480693812 tw10632935857246423106 tw11723933323329480681 tw11007748251792676843 tw10928819786921699850 tw11845905328815369909
universe tw18086609271549748289 tw14333256251830314605 tw7066909702405434711 tw935798099818010361 tw2813560159466018299 tw8138783399146094590 tw6681961622959059504 tw6291059030989366768 tw14634725649834372018 tw15746593351596876927 tw8972311201481303778 tw13568149665658853372 tw18347606683793540448 tw4954000795563622354 tw7479431015278290625 tw5405811091024609432 tw10403731295049956949 tw18069864436217741277 tw4118147195985914156 tw6775814561008887482 tw13743481341677610403 tw5645425647961282613 tw18000915617828464017 tw15503574344878683599 tw15223255378610890733 tw1043175369708297484 tw4035806491414120435 tw2935223703587112658 tw14832348307192493494 tw8007690521847410672 tw15310947538477926849 tw13061824966075552607 tw2534089899527323678 tw3325519460642660118 tw12516016041758188945 tw8520007465144896449 tw1092711750965569498 tw17520439690668533802 tw4893674240856315718 tw6556058680000515035
universe tw9846893873051215600 tw18192768507609676800 tw8264963500283118433 tw1727266070815423139 tw8029521490118403402 tw14430257031977969588 tw16886278654872298163 tw2160801891685903124 tw11009276703485784390 tw6923709602365671324 tw16015416455091164414 tw11042754317893318650 tw17056186710991264500 tw4619779281560688296 tw13143282664663495777 tw9584351071670730243 tw7486395066793447525 tw17595484032947030104 tw5270975471718798792 tw13387805628698891555 tw4765145996571712279 tw11438438231245479891 tw14117482298611305946 tw5267686293927622160 tw936524741659705411 tw8304418463062307875 tw20702928672167823 tw16910711258755436243 tw3804594138966082871 tw297547493932273087 tw14781323744584504072 tw15241084340757003298 tw4616995227626811386
end PySem.W.Fast
open PySem PySem.W PyProof.Rows
set_option maxRecDepth 100000 in
set_option maxHeartbeats 0 in
theorem PySem.Challenge.cw_holdtalk_k56_two_houses_holds : PySem.Challenge.rw_holdtalk_k56_two_houses.Holds := by
 w_on;o_law;k_head;(case hw=>w_witness2)
 k_fill
 refine Toy.walk (l:=PySem.Challenge.rw_holdtalk_k56_two_houses) rfl rfl (fun w h Y=>PySem.W.kIn_of Y) ?F
 case F=>
  intro w mg fa h KX G hmg
  apply Toy.all_mk hmg
  apply Toy.Ev.mk
  iterate 60 (apply Toy.fx KX G;iterate 4 k_is)
  apply Toy.kf KX G;iterate 3 k_is
  apply Toy.tkx;iterate 13 k_is
  iterate 11 (apply Toy.mx;iterate 5 k_is)
  apply Toy.mx;iterate 5 k_is
  apply Toy.kf KX G;iterate 3 k_is
  apply Toy.hsx;iterate 9 k_is
  iterate 23 (apply Toy.mx;iterate 5 k_is)
  apply Toy.mx;iterate 5 k_is
  apply Toy.tx KX G (PySem.W.mg_none_of KX G (by k_is)) (PySem.W.mg_none_of KX G (by k_is));iterate 4 k_is
  iterate 9 (apply Toy.ox KX G;iterate 25 first|k_is|rfl|decide|simp)
  apply Toy.ox KX G;iterate 25 first|k_is|rfl|decide|simp
  iterate 17 (apply PySem.W.mg_none_of KX G;k_is)
  apply PySem.W.mg_of KX G;k_is
  apply PySem.W.mg_of KX G;k_is
  apply PySem.W.mg_of KX G;k_is
  apply PySem.W.mg_of KX G;k_is
  apply Toy.ex_SHT KX G;(apply PySem.W.mg_none_of KX G;k_is);(apply PySem.W.mg_none_of KX G;k_is);(k_is);(k_is);(k_is);(first|k_is|rfl|decide|simp)
  apply Toy.ex_hMW KX G;(k_is);(first|k_is|rfl|decide|simp)
