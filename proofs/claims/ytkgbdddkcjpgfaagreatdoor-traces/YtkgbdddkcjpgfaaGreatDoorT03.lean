import Derived.Test.YtkgbdddkcjpgfaaGreatDoorRows
import Derived.JoinedOf
import Derived.KernelRfl
import Derived.Test.YtkgbdddkcjpgfaaGreatDoorT01
namespace Go.Proofs.YtkgbdddkcjpgfaaGreatDoor
open Go.Proofs.Tryz
section
open Go
theorem Tryz.fLaid:laidOutB prog=true:=by kernel_rfl
theorem Tryz.fMaps:mapsRowed prog=true:=by kernel_rfl
theorem Tryz.fStops:(prog.stops==[])=true:=by kernel_rfl
theorem Tryz.fKnobs:(prog.stopKnobs==[])=true:=by kernel_rfl
theorem Tryz.fHeard:prog.stopsHeard=true:=by kernel_rfl
theorem Tryz.fEnter:prog.mayEnter=true:=by kernel_rfl
theorem Tryz.fLifts:(Rows.checksRow.lifted==prog.liftsFinal)=true:=by kernel_rfl
theorem Tryz.fMake:(prog.make==some Rows.checksRow.make)=true:=by kernel_rfl
theorem Tryz.fPlain:(Rows.checksRow.plainKeys==prog.plainKeys)=true:=by kernel_rfl
theorem nW{P:Program}{f:FuncId}{a:Func}{s:ChangeSpec}{c:OpenClaim}
  (C:c.wf (OpenSpec.ofChange s)=true) (D:laidOutB P=true) (E:mapsRowed P=true) (F:a.params.all (P.readableRec ·)=true) (G:namedTie P c.named s.vars=true)
  (H:(c.stops==[])=true) (I:(P.stops==[])=true) (J:(c.knobs==[])=true) (K:(P.stopKnobs==[])=true)
  (h:(c.inPlace==P.inPlace f)=true) (i:(c.unfollowed==P.unfollowed f)=true) (j:(c.recurses==P.recurses f)=true) (k:(c.named==P.varsNamed f)=true)
  (l:(c.maps==(a.params.toList++s.plain.varTypes P).any (P.mapsRec ·))=true) (m:(c.ifaces==(a.params.toList++s.plain.varTypes P).any (P.ifacesRec ·))=true) (n:(c.mapsOut==P.mapsAmong a.resultTypes.toList)=true)
  (o:(c.loops==(a.params.toList++s.plain.varTypes P).any (P.loopsFrom ·))=true) (b:(c.wideKeys==(a.params.toList++s.plain.varTypes P++a.resultTypes.toList).any (P.wideKeysFrom ·))=true)
  (p:s.vars.all (P.varReadable ·)=true) (q:a.resultTypes.all (fun t=>P.readableRec t&&decide (t<P.types.size))=true) (r:(c.ifacesOut==a.resultTypes.toList.any (P.ifacesRec ·))=true) (u:(c.loopsOut==a.resultTypes.toList.any (P.loopsFrom ·))=true) (v:(c.plainKeys==P.plainKeys)=true) (w:c.shortTexts.isNone=true) (d:P.stopsHeard=true) (x:P.mayEnter=true) (e:(c.lifted==P.liftsFinal)=true) (g:(P.make==some c.make)=true)
  (L:c.domain.isEmpty=true) (y:(c.kinds==[])=true) (z:(c.pinned==c.pinnedBy)=true)
  (A:(c.veiled==(a.params.toList++s.plain.varTypes P++a.resultTypes.toList).any (P.veiledRec ·))=true) (B:c.veiledFits P a.params.toList (a.params.toList++s.plain.varTypes P++a.resultTypes.toList)=true):joinedFacts P f a s c=true:=by
 unfold joinedFacts;rw [C,D,E,F,G,H,I,J,K,h,i,j,k,l,m,n,o,b,p,q,r,u,v,w,d,x,e,g,if_pos L,y,z,A,B];rfl
theorem aFU:Rows.tracesRow.wf (OpenSpec.ofChange Rows.tracesSpec)=true:=by kernel_rfl
theorem aFT:Tryz.f5.params.all (prog.readableRec ·)=true:=by kernel_rfl
theorem aFS:namedTie prog Rows.tracesRow.named Rows.tracesSpec.vars=true:=by kernel_rfl
theorem aFD:(Rows.tracesRow.inPlace==prog.inPlace 5)=true:=by kernel_rfl
theorem aFC:(Rows.tracesRow.unfollowed==prog.unfollowed 5)=true:=by kernel_rfl
theorem aFB:(Rows.tracesRow.recurses==prog.recurses 5)=true:=by kernel_rfl
theorem aFA:(Rows.tracesRow.named==prog.varsNamed 5)=true:=by kernel_rfl
theorem aE9:(Rows.tracesRow.maps==(Tryz.f5.params.toList++Rows.tracesSpec.plain.varTypes prog).any (prog.mapsRec ·))=true:=by kernel_rfl
theorem aE8:(Rows.tracesRow.ifaces==(Tryz.f5.params.toList++Rows.tracesSpec.plain.varTypes prog).any (prog.ifacesRec ·))=true:=by kernel_rfl
theorem aE7:(Rows.tracesRow.mapsOut==prog.mapsAmong Tryz.f5.resultTypes.toList)=true:=by kernel_rfl
theorem aE6:(Rows.tracesRow.loops==(Tryz.f5.params.toList++Rows.tracesSpec.plain.varTypes prog).any (prog.loopsFrom ·))=true:=by kernel_rfl
theorem aEU:(Rows.tracesRow.wideKeys==(Tryz.f5.params.toList++Rows.tracesSpec.plain.varTypes prog++Tryz.f5.resultTypes.toList).any (prog.wideKeysFrom ·))=true:=by kernel_rfl
theorem aE5:Rows.tracesSpec.vars.all (prog.varReadable ·)=true:=by kernel_rfl
theorem aE4:Tryz.f5.resultTypes.all (fun t=>prog.readableRec t&&decide (t<prog.types.size))=true:=by kernel_rfl
theorem aE3:(Rows.tracesRow.ifacesOut==Tryz.f5.resultTypes.toList.any (prog.ifacesRec ·))=true:=by kernel_rfl
theorem aE2:(Rows.tracesRow.loopsOut==Tryz.f5.resultTypes.toList.any (prog.loopsFrom ·))=true:=by kernel_rfl
theorem aE1:(Rows.tracesRow.pinned==Rows.tracesRow.pinnedBy)=true:=by kernel_rfl
theorem aE0:(Rows.tracesRow.veiled==(Tryz.f5.params.toList++Rows.tracesSpec.plain.varTypes prog++Tryz.f5.resultTypes.toList).any (prog.veiledRec ·))=true:=by kernel_rfl
theorem aEZ:Rows.tracesRow.veiledFits prog Tryz.f5.params.toList (Tryz.f5.params.toList++Rows.tracesSpec.plain.varTypes prog++Tryz.f5.resultTypes.toList)=true:=by kernel_rfl
theorem aEE:joinedFacts prog 5 Tryz.f5 Rows.tracesSpec Rows.tracesRow=true:=nW aFU Tryz.fLaid Tryz.fMaps aFT aFS rfl Tryz.fStops rfl Tryz.fKnobs aFD aFC aFB aFA aE9 aE8 aE7 aE6 aEU aE5 aE4 aE3 aE2 Tryz.fPlain rfl Tryz.fHeard Tryz.fEnter Tryz.fLifts Tryz.fMake rfl rfl aE1 aE0 aEZ
end
end Go.Proofs.YtkgbdddkcjpgfaaGreatDoor
