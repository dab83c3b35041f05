import Derived.Test.YtbgghmjmcapmlaaGreatDoorRows
import Derived.JoinedOf
import Derived.Test.YtbgghmjmcapmlaaGreatDoorF01
namespace Go.Proofs.YtbgghmjmcapmlaaGreatDoor
open Go.Proofs.Tryz
section
open Go
theorem Tryz.fLaid:laidOutB prog=true:=by kernel_rfl
theorem Tryz.fMaps:mapsRowed prog=true:=by kernel_rfl
theorem Tryz.fStops:(prog.stops==[])=true:=by kernel_rfl
theorem Tryz.fKnobs:(prog.stopKnobs==[])=true:=by kernel_rfl
theorem Tryz.fHeard:prog.stopsHeard=true:=by kernel_rfl
theorem Tryz.fEnter:prog.mayEnter=true:=by kernel_rfl
theorem Tryz.fLifts:(Rows.fastsRow.lifted==prog.liftsFinal)=true:=by kernel_rfl
theorem Tryz.fMake:(prog.make==some Rows.fastsRow.make)=true:=by kernel_rfl
theorem Tryz.fPlain:(Rows.fastsRow.plainKeys==prog.plainKeys)=true:=by kernel_rfl
theorem nW{P:Program}{f:FuncId}{a:Func}{s:ChangeSpec}{c:OpenClaim}
  (C:c.wf (OpenSpec.ofChange s)=true) (D:laidOutB P=true) (E:mapsRowed P=true) (F:a.params.all (P.readableRec ·)=true) (G:namedTie P c.named s.vars=true)
  (H:(c.stops==[])=true) (I:(P.stops==[])=true) (J:(c.knobs==[])=true) (K:(P.stopKnobs==[])=true)
  (h:(c.inPlace==P.inPlace f)=true) (i:(c.unfollowed==P.unfollowed f)=true) (j:(c.recurses==P.recurses f)=true) (k:(c.named==P.varsNamed f)=true)
  (l:(c.maps==(a.params.toList++s.plain.varTypes P).any (P.mapsRec ·))=true) (m:(c.ifaces==(a.params.toList++s.plain.varTypes P).any (P.ifacesRec ·))=true) (n:(c.mapsOut==P.mapsAmong a.resultTypes.toList)=true)
  (o:(c.loops==(a.params.toList++s.plain.varTypes P).any (P.loopsFrom ·))=true) (b:(c.wideKeys==(a.params.toList++s.plain.varTypes P++a.resultTypes.toList).any (P.wideKeysFrom ·))=true)
  (p:s.vars.all (P.varReadable ·)=true) (q:a.resultTypes.all (fun t=>P.readableRec t&&decide (t<P.types.size))=true) (r:(c.ifacesOut==a.resultTypes.toList.any (P.ifacesRec ·))=true) (u:(c.loopsOut==a.resultTypes.toList.any (P.loopsFrom ·))=true) (v:(c.plainKeys==P.plainKeys)=true) (w:c.shortTexts.isNone=true) (d:P.stopsHeard=true) (x:P.mayEnter=true) (e:(c.lifted==P.liftsFinal)=true) (g:(P.make==some c.make)=true)
  (L:c.domain.isEmpty=true) (y:(c.kinds==[])=true) (z:(c.pinned==c.pinnedBy)=true)
  (A:(c.veiled==(a.params.toList++s.plain.varTypes P++a.resultTypes.toList).any (P.veiledRec ·))=true) (B:c.veiledFits P a.params.toList (a.params.toList++s.plain.varTypes P++a.resultTypes.toList)=true):joinedFacts P f a s c=true:=by
 unfold joinedFacts;rw [C,D,E,F,G,H,I,J,K,h,i,j,k,l,m,n,o,b,p,q,r,u,v,w,d,x,e,g,if_pos L,y,z,A,B];rfl
theorem fasts_1:Rows.fastsRow.wf (OpenSpec.ofChange Rows.fastsSpec)=true:=by kernel_rfl
theorem fasts_4:Tryz.f3.params.all (prog.readableRec ·)=true:=by kernel_rfl
theorem fasts_5:namedTie prog Rows.fastsRow.named Rows.fastsSpec.vars=true:=by kernel_rfl
theorem aOV:(Rows.fastsRow.inPlace==prog.inPlace 3)=true:=by kernel_rfl
theorem aOU:(Rows.fastsRow.unfollowed==prog.unfollowed 3)=true:=by kernel_rfl
theorem aOT:(Rows.fastsRow.recurses==prog.recurses 3)=true:=by kernel_rfl
theorem aOS:(Rows.fastsRow.named==prog.varsNamed 3)=true:=by kernel_rfl
theorem aOR:(Rows.fastsRow.maps==(Tryz.f3.params.toList++Rows.fastsSpec.plain.varTypes prog).any (prog.mapsRec ·))=true:=by kernel_rfl
theorem aOQ:(Rows.fastsRow.ifaces==(Tryz.f3.params.toList++Rows.fastsSpec.plain.varTypes prog).any (prog.ifacesRec ·))=true:=by kernel_rfl
theorem aOP:(Rows.fastsRow.mapsOut==prog.mapsAmong Tryz.f3.resultTypes.toList)=true:=by kernel_rfl
theorem aOO:(Rows.fastsRow.loops==(Tryz.f3.params.toList++Rows.fastsSpec.plain.varTypes prog).any (prog.loopsFrom ·))=true:=by kernel_rfl
theorem aOF:(Rows.fastsRow.wideKeys==(Tryz.f3.params.toList++Rows.fastsSpec.plain.varTypes prog++Tryz.f3.resultTypes.toList).any (prog.wideKeysFrom ·))=true:=by kernel_rfl
theorem aON:Rows.fastsSpec.vars.all (prog.varReadable ·)=true:=by kernel_rfl
theorem aOM:Tryz.f3.resultTypes.all (fun t=>prog.readableRec t&&decide (t<prog.types.size))=true:=by kernel_rfl
theorem aOL:(Rows.fastsRow.ifacesOut==Tryz.f3.resultTypes.toList.any (prog.ifacesRec ·))=true:=by kernel_rfl
theorem aOK:(Rows.fastsRow.loopsOut==Tryz.f3.resultTypes.toList.any (prog.loopsFrom ·))=true:=by kernel_rfl
theorem aOJ:(Rows.fastsRow.pinned==Rows.fastsRow.pinnedBy)=true:=by kernel_rfl
theorem aOI:(Rows.fastsRow.veiled==(Tryz.f3.params.toList++Rows.fastsSpec.plain.varTypes prog++Tryz.f3.resultTypes.toList).any (prog.veiledRec ·))=true:=by kernel_rfl
theorem aOH:Rows.fastsRow.veiledFits prog Tryz.f3.params.toList (Tryz.f3.params.toList++Rows.fastsSpec.plain.varTypes prog++Tryz.f3.resultTypes.toList)=true:=by kernel_rfl
theorem aN8:joinedFacts prog 3 Tryz.f3 Rows.fastsSpec Rows.fastsRow=true:=nW fasts_1 Tryz.fLaid Tryz.fMaps fasts_4 fasts_5 rfl Tryz.fStops rfl Tryz.fKnobs aOV aOU aOT aOS aOR aOQ aOP aOO aOF aON aOM aOL aOK Tryz.fPlain rfl Tryz.fHeard Tryz.fEnter Tryz.fLifts Tryz.fMake rfl rfl aOJ aOI aOH
end
end Go.Proofs.YtbgghmjmcapmlaaGreatDoor
