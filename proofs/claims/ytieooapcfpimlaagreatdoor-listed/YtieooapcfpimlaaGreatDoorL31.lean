import Derived.Test.YtieooapcfpimlaaGreatDoorRows
import Derived.JoinedOf
import Derived.Test.YtieooapcfpimlaaGreatDoorL01
namespace Go.Proofs.YtieooapcfpimlaaGreatDoor
open Go.Proofs.Tryz
section
open Go
theorem Tryz.fLaid:laidOutB prog=true:=by kernel_rfl
theorem Tryz.fMaps:mapsRowed prog=true:=by kernel_rfl
theorem Tryz.fStops:(prog.stops==[])=true:=by kernel_rfl
theorem Tryz.fKnobs:(prog.stopKnobs==[])=true:=by kernel_rfl
theorem Tryz.fHeard:prog.stopsHeard=true:=by kernel_rfl
theorem Tryz.fEnter:prog.mayEnter=true:=by kernel_rfl
theorem Tryz.fLifts:(Rows.listedRow.lifted==prog.liftsFinal)=true:=by kernel_rfl
theorem Tryz.fMake:(prog.make==some Rows.listedRow.make)=true:=by kernel_rfl
theorem Tryz.fPlain:(Rows.listedRow.plainKeys==prog.plainKeys)=true:=by kernel_rfl
theorem nW{P:Program}{f:FuncId}{a:Func}{s:ChangeSpec}{c:OpenClaim}
  (C:c.wf (OpenSpec.ofChange s)=true) (D:laidOutB P=true) (E:mapsRowed P=true) (F:a.params.all (P.readableRec ·)=true) (G:namedTie P c.named s.vars=true)
  (H:(c.stops==[])=true) (I:(P.stops==[])=true) (J:(c.knobs==[])=true) (K:(P.stopKnobs==[])=true)
  (h:(c.inPlace==P.inPlace f)=true) (i:(c.unfollowed==P.unfollowed f)=true) (j:(c.recurses==P.recurses f)=true) (k:(c.named==P.varsNamed f)=true)
  (l:(c.maps==(a.params.toList++s.plain.varTypes P).any (P.mapsRec ·))=true) (m:(c.ifaces==(a.params.toList++s.plain.varTypes P).any (P.ifacesRec ·))=true) (n:(c.mapsOut==P.mapsAmong a.resultTypes.toList)=true)
  (o:(c.loops==(a.params.toList++s.plain.varTypes P).any (P.loopsFrom ·))=true) (b:(c.wideKeys==(a.params.toList++s.plain.varTypes P++a.resultTypes.toList).any (P.wideKeysFrom ·))=true)
  (p:s.vars.all (P.varReadable ·)=true) (q:a.resultTypes.all (fun t=>P.readableRec t&&decide (t<P.types.size))=true) (r:(c.ifacesOut==a.resultTypes.toList.any (P.ifacesRec ·))=true) (u:(c.loopsOut==a.resultTypes.toList.any (P.loopsFrom ·))=true) (v:(c.plainKeys==P.plainKeys)=true) (w:c.shortTexts.isNone=true) (d:P.stopsHeard=true) (x:P.mayEnter=true) (e:(c.lifted==P.liftsFinal)=true) (g:(P.make==some c.make)=true)
  (L:c.domain.isEmpty=true) (y:(c.kinds==[])=true) (z:(c.pinned==c.pinnedBy)=true)
  (A:(c.veiled==(a.params.toList++s.plain.varTypes P++a.resultTypes.toList).any (P.veiledRec ·))=true) (B:c.veiledFits P a.params.toList (a.params.toList++s.plain.varTypes P++a.resultTypes.toList)=true):joinedFacts P f a s c=true:=by
 unfold joinedFacts;rw [C,D,E,F,G,H,I,J,K,h,i,j,k,l,m,n,o,b,p,q,r,u,v,w,d,x,e,g,if_pos L,y,z,A,B];rfl
end
end Go.Proofs.YtieooapcfpimlaaGreatDoor
