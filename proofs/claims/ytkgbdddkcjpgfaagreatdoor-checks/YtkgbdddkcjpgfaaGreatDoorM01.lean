/- The numbers under which this dump holds sync.Mutex's functions and types, and that it holds them. -/
import Derived.Test.YtkgbdddkcjpgfaaGreatDoorProg
import Derived.Conc.MuLone
import Derived.KernelRfl
namespace Go.Proofs.YtkgbdddkcjpgfaaGreatDoor
abbrev muLink : Go.Conc.Locks.MuLink := { lock := 166, unlock := 167, ilock := 191, iunlock := 192, lockSlow := 209, unlockSlow := 211, disable := 97, enable := 99, acquire := 100, relMerge := 132, cas32 := 208, add32 := 210, tMutex := 125, tIMutex := 123, tPMutex := 370, tPIMutex := 381, tPI32 := 383, tUP := 198, tNoCopy := 98, tU32 := 104 }
theorem muLib : Go.Conc.Locks.MuLib Tryz.prog muLink :=
  ⟨Tryz.func166, Tryz.func167, Tryz.func191, Tryz.func192, Tryz.func97, Tryz.func99, Tryz.func100, Tryz.func132, Tryz.func208, Tryz.func210,
   Tryz.underlying123, Tryz.runUnderlying123, Tryz.sizeOf123, Tryz.isAgg123, Tryz.zeroValue123, Tryz.underlying125, Tryz.runUnderlying125, Tryz.sizeOf125, Tryz.isAgg125, Tryz.zeroValue125, Tryz.underlying370, Tryz.runUnderlying370, Tryz.sizeOf370, Tryz.isAgg370, Tryz.zeroValue370, Tryz.underlying381, Tryz.runUnderlying381, Tryz.sizeOf381, Tryz.isAgg381, Tryz.zeroValue381, Tryz.underlying383, Tryz.runUnderlying383, Tryz.sizeOf383, Tryz.isAgg383, Tryz.zeroValue383, Tryz.underlying198, Tryz.runUnderlying198, Tryz.sizeOf198, Tryz.isAgg198, Tryz.zeroValue198, Tryz.underlying98, Tryz.runUnderlying98, Tryz.sizeOf98, Tryz.isAgg98, Tryz.zeroValue98, Tryz.underlying21, Tryz.runUnderlying21, Tryz.sizeOf21, Tryz.isAgg21, Tryz.zeroValue21, (by kernel_rfl)⟩
end Go.Proofs.YtkgbdddkcjpgfaaGreatDoor
