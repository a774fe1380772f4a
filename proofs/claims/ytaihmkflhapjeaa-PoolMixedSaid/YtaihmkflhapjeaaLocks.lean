/-
  The lock's functions and types at this program's numbers.
-/
import Derived.Test.YtaihmkflhapjeaaProg
import Derived.Conc.MuLib
import Derived.KernelRfl
namespace Go.Proofs.Ytaihmkflhapjeaa
abbrev muLink : Go.Conc.Locks.MuLink := { lock := 41, unlock := 42, ilock := 53, iunlock := 54, lockSlow := 64, unlockSlow := 67, disable := 60, enable := 62, acquire := 63, relMerge := 65, cas32 := 61, add32 := 66, tMutex := 72, tIMutex := 70, tPMutex := 98, tPIMutex := 103, tPI32 := 105, tUP := 107, tNoCopy := 67, tU32 := 68 }
theorem muLib : Go.Conc.Locks.MuLib Try.prog muLink :=
  ⟨Try.func41, Try.func42, Try.func53, Try.func54, Try.func60, Try.func62, Try.func63, Try.func65, Try.func61, Try.func66, Try.underlying70, Try.runUnderlying70, Try.sizeOf70, Try.isAgg70, Try.zeroValue70, Try.underlying72, Try.runUnderlying72, Try.sizeOf72, Try.isAgg72, Try.zeroValue72, Try.underlying98, Try.runUnderlying98, Try.sizeOf98, Try.isAgg98, Try.zeroValue98, Try.underlying103, Try.runUnderlying103, Try.sizeOf103, Try.isAgg103, Try.zeroValue103, Try.underlying105, Try.runUnderlying105, Try.sizeOf105, Try.isAgg105, Try.zeroValue105, Try.underlying107, Try.runUnderlying107, Try.sizeOf107, Try.isAgg107, Try.zeroValue107, Try.underlying67, Try.runUnderlying67, Try.sizeOf67, Try.isAgg67, Try.zeroValue67, Try.underlying21, Try.runUnderlying21, Try.sizeOf21, Try.isAgg21, Try.zeroValue21, (by kernel_rfl)⟩
end Go.Proofs.Ytaihmkflhapjeaa
