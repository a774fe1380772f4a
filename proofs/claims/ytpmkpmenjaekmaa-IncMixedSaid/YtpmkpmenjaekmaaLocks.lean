/-
  The lock's functions and types at this program's numbers.
-/
import Derived.Test.YtpmkpmenjaekmaaProg
import Derived.Conc.MuLib
import Derived.KernelRfl
namespace Go.Proofs.Ytpmkpmenjaekmaa
abbrev muLink : Go.Conc.Locks.MuLink := { lock := 33, unlock := 34, ilock := 40, iunlock := 41, lockSlow := 48, unlockSlow := 51, disable := 44, enable := 46, acquire := 47, relMerge := 49, cas32 := 45, add32 := 50, tMutex := 62, tIMutex := 60, tPMutex := 85, tPIMutex := 87, tPI32 := 89, tUP := 91, tNoCopy := 57, tU32 := 58 }
theorem muLib : Go.Conc.Locks.MuLib Try.prog muLink :=
  ⟨Try.func33, Try.func34, Try.func40, Try.func41, Try.func44, Try.func46, Try.func47, Try.func49, Try.func45, Try.func50, Try.underlying60, Try.runUnderlying60, Try.sizeOf60, Try.isAgg60, Try.zeroValue60, Try.underlying62, Try.runUnderlying62, Try.sizeOf62, Try.isAgg62, Try.zeroValue62, Try.underlying85, Try.runUnderlying85, Try.sizeOf85, Try.isAgg85, Try.zeroValue85, Try.underlying87, Try.runUnderlying87, Try.sizeOf87, Try.isAgg87, Try.zeroValue87, Try.underlying89, Try.runUnderlying89, Try.sizeOf89, Try.isAgg89, Try.zeroValue89, Try.underlying91, Try.runUnderlying91, Try.sizeOf91, Try.isAgg91, Try.zeroValue91, Try.underlying57, Try.runUnderlying57, Try.sizeOf57, Try.isAgg57, Try.zeroValue57, Try.underlying21, Try.runUnderlying21, Try.sizeOf21, Try.isAgg21, Try.zeroValue21, (by kernel_rfl)⟩
end Go.Proofs.Ytpmkpmenjaekmaa
