/- SHA-256's two small turns, walked: the program's bits.RotateLeft32 and the document's own turn. -/
import Derived.Test.YtpboclnfjpofjaaDoorBase
namespace Go.Proofs.YtpboclnfjpofjaaDoor.Sha
open Go.RowKit

/-- A word turned to the left, as uint32 reckons. -/
def rotl (x : Int) (s : Nat) : Int := bits .or .u32 (x * 2 ^ s % 4294967296) (x / 2 ^ (32 - s))
theorem rotl_walk (x k : Int) (s : Nat) (w : World) (h1 : s ≤ 31) (hk : bits .and .u64 (IntKind.u64.wrap k) 31 = (s : Int)) :
    Calls Tryd.prog 14 #[.int .u32 x, .int .i64 k] w fun e w' => e = .returned (.int .u32 (rotl x s)) ∧ w' = w := by
  have hs2 : (s : Int) ≤ 32 := by omega
  go_enter Tryd.func14, Tryd.ntmps14
  go_wp2
  go_ret
  exact ⟨rfl, rfl⟩

/-- A word turned to the right, as the document's own turn reckons. -/
def rotr (x n : Int) : Int := bits .or .i64 (x / 2 ^ n.toNat) (bits .and .i64 (wrap64 (x * 2 ^ (32 - n).toNat)) 4294967295)
theorem turn_walk (x n : Int) (w : World) (h1 : 1 ≤ n) (h2 : n ≤ 31) :
    Calls Tryd.prog 12 #[.int .i64 x, .int .i64 n] w fun e w' => e = .returned (.int .i64 (rotr x n)) ∧ ∃ m, w' = w.drewN m := by
  go_enter Tryd.func12, Tryd.ntmps12
  go_wp2_with fail
  go_quiet (fail)
  go_wp2
  go_ret
  exact ⟨rfl, _, rfl⟩
end Go.Proofs.YtpboclnfjpofjaaDoor.Sha
