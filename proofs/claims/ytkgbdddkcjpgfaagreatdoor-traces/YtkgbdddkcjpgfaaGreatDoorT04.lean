import Derived.Test.YtkgbdddkcjpgfaaGreatDoorTie
import Derived.Test.YtkgbdddkcjpgfaaGreatDoorCards
import Derived.SevenTiedAt
import Derived.Test.YtkgbdddkcjpgfaaGreatDoorT01
namespace Go.Proofs.YtkgbdddkcjpgfaaGreatDoor
open Go.Proofs.Tryz
section
open Go
theorem mN(i:Looks){p:Pinned}{s:OpenSpec}{c:OpenClaim}(g:Bool)(kinds:List LaidKind)(a:Bool)(b:Bool×String)(d:Bool)
  (n:c.holds p s) (o:c.wfByText s=true) (e:c.laidByTextAt i p kinds a)
  (k:c.start=.entering) (l:c.noBlocks=false/\c.again=false) (q:p.checked.prog.mainIs=some (b.1,b.2.toList)) (u:(!b.1&&b.2.isEmpty&&!d)=false)
  (v:∀f m,p.checked.prog.funcNamed c.func=some f->p.checked.prog.funcs[f]?=some m->d=p.checked.prog.looks []/\∀(j:Nat) t,m.params[j]?=some t->p.checked.prog.wantsStandIn t=false)
  (w:g=c.goesBy p.checked.prog) :
  Claim7.holds p (.plain s) {stood:={row:=c,standIns:=[],harness:=b,looks:=d},kinds:=[],alts:=[],goes:=g,laidByText:=true,laidKinds:=kinds,laidTests:=a,laidLooks:=i}:=by
 have x:∀r:OpenClaim,Claim7.isSixth {stood:={row:=r,standIns:=[],harness:=b,looks:=d},kinds:=[]}=false:=fun r=>by simpa [Claim7.isSixth] using u
 exact⟨Claim7.tied_new_at i kinds a (Claim7.new_of_sixth n b d k l q (x c) v) o,fun D y=>(by cases y),e,(fun h=>by cases h),w⟩
theorem tr_goes:true=Rows.tracesRow.goesBy Tryz.pinned.checked.prog:=by kernel_rfl
theorem tr_main:Tryz.pinned.checked.prog.mainIs=some (Rows.tracesCard.stood.harness.1,Rows.tracesCard.stood.harness.2.toList):=by kernel_rfl
theorem tr_wf:Rows.tracesRow.wfByText (OpenSpec.ofChange Rows.tracesSpec)=true:=by kernel_rfl
theorem aFV:true=Tryz.pinned.checked.prog.looks []:=by kernel_rfl
theorem aFE:prog.wantsStandIn 26=false/\prog.wantsStandIn 9=false/\prog.wantsStandIn 3=false:=⟨by kernel_rfl,by kernel_rfl,by kernel_rfl⟩
end
end Go.Proofs.YtkgbdddkcjpgfaaGreatDoor
