/- For every script stepperkeep.Twins returns true (twins_card_holds: the fast engine answers as the slow one, from the first input up to the first one that the slow one has not ended; each input has an answer of both), and for every script, number and input stepperkeep.Quiet returns true (quiet_card_holds: an input that cannot be read, or whose fuel may not be, put anywhere into a session, changes nothing of the others, by neither engine, by the fast one as far as the slow one comes to an end each time); what was handed in reads as it did: the tied cards. Conditions: the package-level variables start as the program's text lays them (tied by the given tie); the card's own looks. -/
import Derived.Test.YtkgbdddkcjpgfaaGreatDoorQA
import Derived.Test.YtkgbdddkcjpgfaaGreatDoorTie
import Derived.Test.YtkgbdddkcjpgfaaGreatDoorCards
import Derived.SevenTiedAt
namespace Go.Proofs.YtkgbdddkcjpgfaaGreatDoor
set_option maxHeartbeats 4000000
set_option maxRecDepth 100000
open Go.Proofs.Tryz
section
open Go
theorem mN(i:Looks){p:Pinned}{s:OpenSpec}{c:OpenClaim}(g:Bool)(kinds:List LaidKind)(a:Bool)(b:Bool×String)(d:Bool)
  (n:c.holds p s) (o:c.wfByText s=true) (e:c.laidByTextAt i p kinds a)
  (k:c.start=.entering) (l:c.noBlocks=false/\c.again=false) (q:p.checked.prog.mainIs=some (b.1,b.2.toList)) (u:(!b.1&&b.2.isEmpty&&!d)=false)
  (v:∀f m,p.checked.prog.funcNamed c.func=some f->p.checked.prog.funcs[f]?=some m->d=p.checked.prog.looks []/\∀(j:Nat) t,m.params[j]?=some t->p.checked.prog.wantsStandIn t=false)
  (w:g=c.goesBy p.checked.prog) :
  Claim7.holds p (.plain s) {stood:={row:=c,standIns:=[],harness:=b,looks:=d},kinds:=[],alts:=[],goes:=g,laidByText:=true,laidKinds:=kinds,laidTests:=a,laidLooks:=i}:=by
 have x:∀r:OpenClaim,Claim7.isSixth {stood:={row:=r,standIns:=[],harness:=b,looks:=d},kinds:=[]}=false:=fun r=>by simpa [Claim7.isSixth] using u
 exact⟨Claim7.tied_new_at i kinds a (Claim7.new_of_sixth n b d k l q (x c) v) o,fun D y=>(by cases y),e,(fun h=>by cases h),w⟩
theorem quiet_card_holds:Rows.QuietCardSaid :=
 mN .later true [.data,.data,.data,.handle,.sentinel,.sentinel,.data] true Rows.quietCard.stood.harness true
  aNF (by kernel_rfl) quiet_row_tie rfl ⟨rfl,rfl⟩ (by kernel_rfl) rfl
  (fun f c d b=>by
   obtain rfl:f=14:=i_ ((show prog.funcNamed "stepper/stepperkeep.Quiet"=some 14 by kernel_rfl).symm.trans d) |>.symm;obtain rfl:c=Tryz.f14:=(i_ (func14.symm.trans b)).symm
   exact⟨by kernel_rfl,fun j t a=>by
    rw [params14] at a;rcases j with _ | _ | _ | j
    ·obtain rfl:26=t:=i_ a;exact(show prog.wantsStandIn 26=false by kernel_rfl)
    ·obtain rfl:3=t:=i_ a;exact(show prog.wantsStandIn 3=false by kernel_rfl)
    ·obtain rfl:41=t:=i_ a;exact(show prog.wantsStandIn 41=false by kernel_rfl)
    ·simp at a⟩)
  (by kernel_rfl)
end
end Go.Proofs.YtkgbdddkcjpgfaaGreatDoor
