import Derived.Test.YtkgbdddkcjpgfaaGreatDoorRows
import Derived.JoinedOf
import Derived.Test.YtkgbdddkcjpgfaaGreatDoorQ01
namespace Go.Proofs.YtkgbdddkcjpgfaaGreatDoor
open Go.Proofs.Tryz
section
open Go
theorem Tryz.fLaid:laidOutB prog=true:=by kernel_rfl
theorem Tryz.fMaps:mapsRowed prog=true:=by kernel_rfl
theorem Tryz.fStops:(prog.stops==[])=true:=by kernel_rfl
theorem Tryz.fKnobs:(prog.stopKnobs==[])=true:=by kernel_rfl
theorem Tryz.fHeard:prog.stopsHeard=true:=by kernel_rfl
theorem Tryz.fEnter:prog.mayEnter=true:=by kernel_rfl
theorem Tryz.fLifts:(Rows.checksRow.lifted==prog.liftsFinal)=true:=by kernel_rfl
theorem Tryz.fMake:(prog.make==some Rows.checksRow.make)=true:=by kernel_rfl
theorem Tryz.fPlain:(Rows.checksRow.plainKeys==prog.plainKeys)=true:=by kernel_rfl
theorem nW{P:Program}{f:FuncId}{a:Func}{s:ChangeSpec}{c:OpenClaim}
  (C:c.wf (OpenSpec.ofChange s)=true) (D:laidOutB P=true) (E:mapsRowed P=true) (F:a.params.all (P.readableRec ·)=true) (G:namedTie P c.named s.vars=true)
  (H:(c.stops==[])=true) (I:(P.stops==[])=true) (J:(c.knobs==[])=true) (K:(P.stopKnobs==[])=true)
  (h:(c.inPlace==P.inPlace f)=true) (i:(c.unfollowed==P.unfollowed f)=true) (j:(c.recurses==P.recurses f)=true) (k:(c.named==P.varsNamed f)=true)
  (l:(c.maps==(a.params.toList++s.plain.varTypes P).any (P.mapsRec ·))=true) (m:(c.ifaces==(a.params.toList++s.plain.varTypes P).any (P.ifacesRec ·))=true) (n:(c.mapsOut==P.mapsAmong a.resultTypes.toList)=true)
  (o:(c.loops==(a.params.toList++s.plain.varTypes P).any (P.loopsFrom ·))=true) (b:(c.wideKeys==(a.params.toList++s.plain.varTypes P++a.resultTypes.toList).any (P.wideKeysFrom ·))=true)
  (p:s.vars.all (P.varReadable ·)=true) (q:a.resultTypes.all (fun t=>P.readableRec t&&decide (t<P.types.size))=true) (r:(c.ifacesOut==a.resultTypes.toList.any (P.ifacesRec ·))=true) (u:(c.loopsOut==a.resultTypes.toList.any (P.loopsFrom ·))=true) (v:(c.plainKeys==P.plainKeys)=true) (w:c.shortTexts.isNone=true) (d:P.stopsHeard=true) (x:P.mayEnter=true) (e:(c.lifted==P.liftsFinal)=true) (g:(P.make==some c.make)=true)
  (L:c.domain.isEmpty=true) (y:(c.kinds==[])=true) (z:(c.pinned==c.pinnedBy)=true)
  (A:(c.veiled==(a.params.toList++s.plain.varTypes P++a.resultTypes.toList).any (P.veiledRec ·))=true) (B:c.veiledFits P a.params.toList (a.params.toList++s.plain.varTypes P++a.resultTypes.toList)=true):joinedFacts P f a s c=true:=by
 unfold joinedFacts;rw [C,D,E,F,G,H,I,J,K,h,i,j,k,l,m,n,o,b,p,q,r,u,v,w,d,x,e,g,if_pos L,y,z,A,B];rfl
theorem quiet_1:Rows.quietRow.wf (OpenSpec.ofChange Rows.quietSpec)=true:=by kernel_rfl
theorem quiet_4:Tryz.f14.params.all (prog.readableRec ·)=true:=by kernel_rfl
theorem quiet_5:namedTie prog Rows.quietRow.named Rows.quietSpec.vars=true:=by kernel_rfl
theorem aN1:(Rows.quietRow.inPlace==prog.inPlace 14)=true:=by kernel_rfl
theorem aN0:(Rows.quietRow.unfollowed==prog.unfollowed 14)=true:=by kernel_rfl
theorem aNZ:(Rows.quietRow.recurses==prog.recurses 14)=true:=by kernel_rfl
theorem aNY:(Rows.quietRow.named==prog.varsNamed 14)=true:=by kernel_rfl
theorem aNX:(Rows.quietRow.maps==(Tryz.f14.params.toList++Rows.quietSpec.plain.varTypes prog).any (prog.mapsRec ·))=true:=by kernel_rfl
theorem aNW:(Rows.quietRow.ifaces==(Tryz.f14.params.toList++Rows.quietSpec.plain.varTypes prog).any (prog.ifacesRec ·))=true:=by kernel_rfl
theorem aNV:(Rows.quietRow.mapsOut==prog.mapsAmong Tryz.f14.resultTypes.toList)=true:=by kernel_rfl
theorem aNU:(Rows.quietRow.loops==(Tryz.f14.params.toList++Rows.quietSpec.plain.varTypes prog).any (prog.loopsFrom ·))=true:=by kernel_rfl
theorem aNI:(Rows.quietRow.wideKeys==(Tryz.f14.params.toList++Rows.quietSpec.plain.varTypes prog++Tryz.f14.resultTypes.toList).any (prog.wideKeysFrom ·))=true:=by kernel_rfl
theorem aNT:Rows.quietSpec.vars.all (prog.varReadable ·)=true:=by kernel_rfl
theorem aNS:Tryz.f14.resultTypes.all (fun t=>prog.readableRec t&&decide (t<prog.types.size))=true:=by kernel_rfl
theorem aNR:(Rows.quietRow.ifacesOut==Tryz.f14.resultTypes.toList.any (prog.ifacesRec ·))=true:=by kernel_rfl
theorem aNQ:(Rows.quietRow.loopsOut==Tryz.f14.resultTypes.toList.any (prog.loopsFrom ·))=true:=by kernel_rfl
theorem aNP:(Rows.quietRow.pinned==Rows.quietRow.pinnedBy)=true:=by kernel_rfl
theorem aNO:(Rows.quietRow.veiled==(Tryz.f14.params.toList++Rows.quietSpec.plain.varTypes prog++Tryz.f14.resultTypes.toList).any (prog.veiledRec ·))=true:=by kernel_rfl
theorem aNN:Rows.quietRow.veiledFits prog Tryz.f14.params.toList (Tryz.f14.params.toList++Rows.quietSpec.plain.varTypes prog++Tryz.f14.resultTypes.toList)=true:=by kernel_rfl
theorem aNE:joinedFacts prog 14 Tryz.f14 Rows.quietSpec Rows.quietRow=true:=nW quiet_1 Tryz.fLaid Tryz.fMaps quiet_4 quiet_5 rfl Tryz.fStops rfl Tryz.fKnobs aN1 aN0 aNZ aNY aNX aNW aNV aNU aNI aNT aNS aNR aNQ Tryz.fPlain rfl Tryz.fHeard Tryz.fEnter Tryz.fLifts Tryz.fMake rfl rfl aNP aNO aNN
theorem twins_1:Rows.twinsRow.wf (OpenSpec.ofChange Rows.twinsSpec)=true:=by kernel_rfl
theorem twins_4:Tryz.f10.params.all (prog.readableRec ·)=true:=by kernel_rfl
theorem twins_5:namedTie prog Rows.twinsRow.named Rows.twinsSpec.vars=true:=by kernel_rfl
theorem aMK:(Rows.twinsRow.inPlace==prog.inPlace 10)=true:=by kernel_rfl
theorem aMJ:(Rows.twinsRow.unfollowed==prog.unfollowed 10)=true:=by kernel_rfl
theorem aMI:(Rows.twinsRow.recurses==prog.recurses 10)=true:=by kernel_rfl
theorem aMH:(Rows.twinsRow.named==prog.varsNamed 10)=true:=by kernel_rfl
theorem aMG:(Rows.twinsRow.maps==(Tryz.f10.params.toList++Rows.twinsSpec.plain.varTypes prog).any (prog.mapsRec ·))=true:=by kernel_rfl
theorem aMF:(Rows.twinsRow.ifaces==(Tryz.f10.params.toList++Rows.twinsSpec.plain.varTypes prog).any (prog.ifacesRec ·))=true:=by kernel_rfl
theorem aME:(Rows.twinsRow.mapsOut==prog.mapsAmong Tryz.f10.resultTypes.toList)=true:=by kernel_rfl
theorem aMD:(Rows.twinsRow.loops==(Tryz.f10.params.toList++Rows.twinsSpec.plain.varTypes prog).any (prog.loopsFrom ·))=true:=by kernel_rfl
theorem aKV:(Rows.twinsRow.wideKeys==(Tryz.f10.params.toList++Rows.twinsSpec.plain.varTypes prog++Tryz.f10.resultTypes.toList).any (prog.wideKeysFrom ·))=true:=by kernel_rfl
theorem aMC:Rows.twinsSpec.vars.all (prog.varReadable ·)=true:=by kernel_rfl
theorem aMB:Tryz.f10.resultTypes.all (fun t=>prog.readableRec t&&decide (t<prog.types.size))=true:=by kernel_rfl
theorem aMA:(Rows.twinsRow.ifacesOut==Tryz.f10.resultTypes.toList.any (prog.ifacesRec ·))=true:=by kernel_rfl
theorem aL9:(Rows.twinsRow.loopsOut==Tryz.f10.resultTypes.toList.any (prog.loopsFrom ·))=true:=by kernel_rfl
theorem aL8:(Rows.twinsRow.pinned==Rows.twinsRow.pinnedBy)=true:=by kernel_rfl
theorem aL7:(Rows.twinsRow.veiled==(Tryz.f10.params.toList++Rows.twinsSpec.plain.varTypes prog++Tryz.f10.resultTypes.toList).any (prog.veiledRec ·))=true:=by kernel_rfl
theorem aL6:Rows.twinsRow.veiledFits prog Tryz.f10.params.toList (Tryz.f10.params.toList++Rows.twinsSpec.plain.varTypes prog++Tryz.f10.resultTypes.toList)=true:=by kernel_rfl
theorem aIX:joinedFacts prog 10 Tryz.f10 Rows.twinsSpec Rows.twinsRow=true:=nW twins_1 Tryz.fLaid Tryz.fMaps twins_4 twins_5 rfl Tryz.fStops rfl Tryz.fKnobs aMK aMJ aMI aMH aMG aMF aME aMD aKV aMC aMB aMA aL9 Tryz.fPlain rfl Tryz.fHeard Tryz.fEnter Tryz.fLifts Tryz.fMake rfl rfl aL8 aL7 aL6
end
end Go.Proofs.YtkgbdddkcjpgfaaGreatDoor
