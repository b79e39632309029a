/- names.isCapital, isSmall: what they answer of every byte. -/
import Derived.Test.YtoeolaienpopfaaGreatDoorProg
import Derived.Test.YtoeolaienpopfaaGreatDoorMem
import Derived.Test.YtoeolaienpopfaaGreatDoorEscMath
import Derived.LaidEql
import Derived.RowKitTokens
import Derived.BigCall
namespace Go.Proofs.YtoeolaienpopfaaGreatDoor
open Go.RowKit
theorem isCapital_yes (n : Int) (w : World) (h1 : 65 ≤ n) (h2 : n ≤ 90) : Calls Tryz.prog 40 #[.int .u8 n] w fun e w' => e = .returned (.bool true) ∧ w' = w := by
  go_enter Tryz.func40, Tryz.ntmps40
  go_wp2
  go_ret
  exact ⟨rfl, rfl⟩
theorem isCapital_no (n : Int) (w : World) (h : ¬ (65 ≤ n ∧ n ≤ 90)) : Calls Tryz.prog 40 #[.int .u8 n] w fun e w' => e = .returned (.bool false) ∧ w' = w := by
  by_cases h1 : 65 ≤ n
  · have h2 : ¬ n ≤ 90 := fun h2 => h ⟨h1, h2⟩
    clear h
    go_enter Tryz.func40, Tryz.ntmps40
    go_wp2
    go_ret
    exact ⟨rfl, rfl⟩
  · clear h
    go_enter Tryz.func40, Tryz.ntmps40
    go_wp2
    go_ret
    exact ⟨rfl, rfl⟩
theorem isSmall_yes (n : Int) (w : World) (h1 : 97 ≤ n) (h2 : n ≤ 122) : Calls Tryz.prog 41 #[.int .u8 n] w fun e w' => e = .returned (.bool true) ∧ w' = w := by
  go_enter Tryz.func41, Tryz.ntmps41
  go_wp2
  go_ret
  exact ⟨rfl, rfl⟩
theorem isSmall_no (n : Int) (w : World) (h : ¬ (97 ≤ n ∧ n ≤ 122)) : Calls Tryz.prog 41 #[.int .u8 n] w fun e w' => e = .returned (.bool false) ∧ w' = w := by
  by_cases h1 : 97 ≤ n
  · have h2 : ¬ n ≤ 122 := fun h2 => h ⟨h1, h2⟩
    clear h
    go_enter Tryz.func41, Tryz.ntmps41
    go_wp2
    go_ret
    exact ⟨rfl, rfl⟩
  · clear h
    go_enter Tryz.func41, Tryz.ntmps41
    go_wp2
    go_ret
    exact ⟨rfl, rfl⟩
end Go.Proofs.YtoeolaienpopfaaGreatDoor
