import Derived.Test.YtkgbdddkcjpgfaaGreatDoorC15
namespace Go.Proofs.YtkgbdddkcjpgfaaGreatDoor
open Pl (PV PW PS)
section
open Go.RowKit
theorem WfV.keep{W:PW}{S:PS}{v:PV}(h:WfV W v):WfV (W.keep S) v:=by
 cases v with
 | cont i=>simp only [WfV,Pl.PW.keep,List.length_append] at h ⊢;omega
 | _=>exact h
theorem WfP.keep{W:PW}{S:PS}(h:WfP W):WfP (W.keep S):=⟨h.acy,fun i p hp=>⟨(h.vals i p hp).1.keep,(h.vals i p hp).2.keep⟩,h.len⟩
theorem WfV.last{W:PW}{S:PS}:WfV (W.keep S) (.cont W.conts.length):=by simp [WfV,Pl.PW.keep]
end
end Go.Proofs.YtkgbdddkcjpgfaaGreatDoor
