/- Replies: the program's tests of bytes. -/
import Derived.Test.YtmodongnganbfaaGreatDoorRpG
namespace Go.Proofs.YtmodongnganbfaaGreatDoor.Rep
open Go.RowKit Go.Proofs.YtmodongnganbfaaGreatDoor Go.Proofs.YtmodongnganbfaaGreatDoor.Sha
def digN (n : Nat) : Bool := decide (48 ≤ n) && decide (n ≤ 57)
def hexN (n : Nat) : Bool := digN n || (decide (97 ≤ n) && decide (n ≤ 102)) || (decide (65 ≤ n) && decide (n ≤ 70))
def hexVN (n : Nat) : Nat := if n ≤ 57 then n - 48 else if 97 ≤ n then n - 87 else n - 55
def nameN (n : Nat) : Bool := (decide (97 ≤ n) && decide (n ≤ 122)) || (decide (65 ≤ n) && decide (n ≤ 90)) || digN n || (n == 45)
set_option maxHeartbeats 1000000 in
theorem isDigit_n (n : Nat) (w : World) (hn : n < 256) : Calls Tryz.prog 56 #[.int .u8 (n : Int)] w fun e w' => e = .returned (.bool (digN n)) ∧ w' = w := by
  by_cases h0 : n < 45
  · have hv : digN n = false := by simp [digN] <;> omega
    rw [hv]
    clear hv
    have l48 : ¬ (48 : Int) ≤ (n : Int) := by omega
    have u57 : (n : Int) ≤ 57 := by omega
    go_enter Tryz.func56, Tryz.ntmps56
    go_wp2
    go_ret
    exact ⟨rfl, rfl⟩
  by_cases h1 : n < 46
  · have hv : digN n = false := by simp [digN] <;> omega
    rw [hv]
    clear hv
    have l48 : ¬ (48 : Int) ≤ (n : Int) := by omega
    have u57 : (n : Int) ≤ 57 := by omega
    go_enter Tryz.func56, Tryz.ntmps56
    go_wp2
    go_ret
    exact ⟨rfl, rfl⟩
  by_cases h2 : n < 48
  · have hv : digN n = false := by simp [digN] <;> omega
    rw [hv]
    clear hv
    have l48 : ¬ (48 : Int) ≤ (n : Int) := by omega
    have u57 : (n : Int) ≤ 57 := by omega
    go_enter Tryz.func56, Tryz.ntmps56
    go_wp2
    go_ret
    exact ⟨rfl, rfl⟩
  by_cases h3 : n < 58
  · have hv : digN n = true := by simp [digN] <;> omega
    rw [hv]
    clear hv
    have l48 : (48 : Int) ≤ (n : Int) := by omega
    have u57 : (n : Int) ≤ 57 := by omega
    go_enter Tryz.func56, Tryz.ntmps56
    go_wp2
    go_ret
    exact ⟨rfl, rfl⟩
  by_cases h4 : n < 65
  · have hv : digN n = false := by simp [digN] <;> omega
    rw [hv]
    clear hv
    have l48 : (48 : Int) ≤ (n : Int) := by omega
    have u57 : ¬ (n : Int) ≤ 57 := by omega
    go_enter Tryz.func56, Tryz.ntmps56
    go_wp2
    go_ret
    exact ⟨rfl, rfl⟩
  by_cases h5 : n < 71
  · have hv : digN n = false := by simp [digN] <;> omega
    rw [hv]
    clear hv
    have l48 : (48 : Int) ≤ (n : Int) := by omega
    have u57 : ¬ (n : Int) ≤ 57 := by omega
    go_enter Tryz.func56, Tryz.ntmps56
    go_wp2
    go_ret
    exact ⟨rfl, rfl⟩
  by_cases h6 : n < 91
  · have hv : digN n = false := by simp [digN] <;> omega
    rw [hv]
    clear hv
    have l48 : (48 : Int) ≤ (n : Int) := by omega
    have u57 : ¬ (n : Int) ≤ 57 := by omega
    go_enter Tryz.func56, Tryz.ntmps56
    go_wp2
    go_ret
    exact ⟨rfl, rfl⟩
  by_cases h7 : n < 97
  · have hv : digN n = false := by simp [digN] <;> omega
    rw [hv]
    clear hv
    have l48 : (48 : Int) ≤ (n : Int) := by omega
    have u57 : ¬ (n : Int) ≤ 57 := by omega
    go_enter Tryz.func56, Tryz.ntmps56
    go_wp2
    go_ret
    exact ⟨rfl, rfl⟩
  by_cases h8 : n < 103
  · have hv : digN n = false := by simp [digN] <;> omega
    rw [hv]
    clear hv
    have l48 : (48 : Int) ≤ (n : Int) := by omega
    have u57 : ¬ (n : Int) ≤ 57 := by omega
    go_enter Tryz.func56, Tryz.ntmps56
    go_wp2
    go_ret
    exact ⟨rfl, rfl⟩
  by_cases h9 : n < 123
  · have hv : digN n = false := by simp [digN] <;> omega
    rw [hv]
    clear hv
    have l48 : (48 : Int) ≤ (n : Int) := by omega
    have u57 : ¬ (n : Int) ≤ 57 := by omega
    go_enter Tryz.func56, Tryz.ntmps56
    go_wp2
    go_ret
    exact ⟨rfl, rfl⟩
  have hv : digN n = false := by simp [digN] <;> omega
  rw [hv]
  clear hv
  have l48 : (48 : Int) ≤ (n : Int) := by omega
  have u57 : ¬ (n : Int) ≤ 57 := by omega
  go_enter Tryz.func56, Tryz.ntmps56
  go_wp2
  go_ret
  exact ⟨rfl, rfl⟩
set_option maxHeartbeats 1000000 in
theorem isHex_n (n : Nat) (w : World) (hn : n < 256) : Calls Tryz.prog 65 #[.int .u8 (n : Int)] w fun e w' => e = .returned (.bool (hexN n)) ∧ w' = w := by
  by_cases h0 : n < 45
  · have hv : hexN n = false := by simp [hexN, digN] <;> omega
    rw [hv]
    clear hv
    have l48 : ¬ (48 : Int) ≤ (n : Int) := by omega
    have u57 : (n : Int) ≤ 57 := by omega
    have l97 : ¬ (97 : Int) ≤ (n : Int) := by omega
    have u102 : (n : Int) ≤ 102 := by omega
    have l65 : ¬ (65 : Int) ≤ (n : Int) := by omega
    have u70 : (n : Int) ≤ 70 := by omega
    go_enter Tryz.func65, Tryz.ntmps65
    go_wp2
    go_ret
    exact ⟨rfl, rfl⟩
  by_cases h1 : n < 46
  · have hv : hexN n = false := by simp [hexN, digN] <;> omega
    rw [hv]
    clear hv
    have l48 : ¬ (48 : Int) ≤ (n : Int) := by omega
    have u57 : (n : Int) ≤ 57 := by omega
    have l97 : ¬ (97 : Int) ≤ (n : Int) := by omega
    have u102 : (n : Int) ≤ 102 := by omega
    have l65 : ¬ (65 : Int) ≤ (n : Int) := by omega
    have u70 : (n : Int) ≤ 70 := by omega
    go_enter Tryz.func65, Tryz.ntmps65
    go_wp2
    go_ret
    exact ⟨rfl, rfl⟩
  by_cases h2 : n < 48
  · have hv : hexN n = false := by simp [hexN, digN] <;> omega
    rw [hv]
    clear hv
    have l48 : ¬ (48 : Int) ≤ (n : Int) := by omega
    have u57 : (n : Int) ≤ 57 := by omega
    have l97 : ¬ (97 : Int) ≤ (n : Int) := by omega
    have u102 : (n : Int) ≤ 102 := by omega
    have l65 : ¬ (65 : Int) ≤ (n : Int) := by omega
    have u70 : (n : Int) ≤ 70 := by omega
    go_enter Tryz.func65, Tryz.ntmps65
    go_wp2
    go_ret
    exact ⟨rfl, rfl⟩
  by_cases h3 : n < 58
  · have hv : hexN n = true := by simp [hexN, digN] <;> omega
    rw [hv]
    clear hv
    have l48 : (48 : Int) ≤ (n : Int) := by omega
    have u57 : (n : Int) ≤ 57 := by omega
    have l97 : ¬ (97 : Int) ≤ (n : Int) := by omega
    have u102 : (n : Int) ≤ 102 := by omega
    have l65 : ¬ (65 : Int) ≤ (n : Int) := by omega
    have u70 : (n : Int) ≤ 70 := by omega
    go_enter Tryz.func65, Tryz.ntmps65
    go_wp2
    go_ret
    exact ⟨rfl, rfl⟩
  by_cases h4 : n < 65
  · have hv : hexN n = false := by simp [hexN, digN] <;> omega
    rw [hv]
    clear hv
    have l48 : (48 : Int) ≤ (n : Int) := by omega
    have u57 : ¬ (n : Int) ≤ 57 := by omega
    have l97 : ¬ (97 : Int) ≤ (n : Int) := by omega
    have u102 : (n : Int) ≤ 102 := by omega
    have l65 : ¬ (65 : Int) ≤ (n : Int) := by omega
    have u70 : (n : Int) ≤ 70 := by omega
    go_enter Tryz.func65, Tryz.ntmps65
    go_wp2
    go_ret
    exact ⟨rfl, rfl⟩
  by_cases h5 : n < 71
  · have hv : hexN n = true := by simp [hexN, digN] <;> omega
    rw [hv]
    clear hv
    have l48 : (48 : Int) ≤ (n : Int) := by omega
    have u57 : ¬ (n : Int) ≤ 57 := by omega
    have l97 : ¬ (97 : Int) ≤ (n : Int) := by omega
    have u102 : (n : Int) ≤ 102 := by omega
    have l65 : (65 : Int) ≤ (n : Int) := by omega
    have u70 : (n : Int) ≤ 70 := by omega
    go_enter Tryz.func65, Tryz.ntmps65
    go_wp2
    go_ret
    exact ⟨rfl, rfl⟩
  by_cases h6 : n < 91
  · have hv : hexN n = false := by simp [hexN, digN] <;> omega
    rw [hv]
    clear hv
    have l48 : (48 : Int) ≤ (n : Int) := by omega
    have u57 : ¬ (n : Int) ≤ 57 := by omega
    have l97 : ¬ (97 : Int) ≤ (n : Int) := by omega
    have u102 : (n : Int) ≤ 102 := by omega
    have l65 : (65 : Int) ≤ (n : Int) := by omega
    have u70 : ¬ (n : Int) ≤ 70 := by omega
    go_enter Tryz.func65, Tryz.ntmps65
    go_wp2
    go_ret
    exact ⟨rfl, rfl⟩
  by_cases h7 : n < 97
  · have hv : hexN n = false := by simp [hexN, digN] <;> omega
    rw [hv]
    clear hv
    have l48 : (48 : Int) ≤ (n : Int) := by omega
    have u57 : ¬ (n : Int) ≤ 57 := by omega
    have l97 : ¬ (97 : Int) ≤ (n : Int) := by omega
    have u102 : (n : Int) ≤ 102 := by omega
    have l65 : (65 : Int) ≤ (n : Int) := by omega
    have u70 : ¬ (n : Int) ≤ 70 := by omega
    go_enter Tryz.func65, Tryz.ntmps65
    go_wp2
    go_ret
    exact ⟨rfl, rfl⟩
  by_cases h8 : n < 103
  · have hv : hexN n = true := by simp [hexN, digN] <;> omega
    rw [hv]
    clear hv
    have l48 : (48 : Int) ≤ (n : Int) := by omega
    have u57 : ¬ (n : Int) ≤ 57 := by omega
    have l97 : (97 : Int) ≤ (n : Int) := by omega
    have u102 : (n : Int) ≤ 102 := by omega
    have l65 : (65 : Int) ≤ (n : Int) := by omega
    have u70 : ¬ (n : Int) ≤ 70 := by omega
    go_enter Tryz.func65, Tryz.ntmps65
    go_wp2
    go_ret
    exact ⟨rfl, rfl⟩
  by_cases h9 : n < 123
  · have hv : hexN n = false := by simp [hexN, digN] <;> omega
    rw [hv]
    clear hv
    have l48 : (48 : Int) ≤ (n : Int) := by omega
    have u57 : ¬ (n : Int) ≤ 57 := by omega
    have l97 : (97 : Int) ≤ (n : Int) := by omega
    have u102 : ¬ (n : Int) ≤ 102 := by omega
    have l65 : (65 : Int) ≤ (n : Int) := by omega
    have u70 : ¬ (n : Int) ≤ 70 := by omega
    go_enter Tryz.func65, Tryz.ntmps65
    go_wp2
    go_ret
    exact ⟨rfl, rfl⟩
  have hv : hexN n = false := by simp [hexN, digN] <;> omega
  rw [hv]
  clear hv
  have l48 : (48 : Int) ≤ (n : Int) := by omega
  have u57 : ¬ (n : Int) ≤ 57 := by omega
  have l97 : (97 : Int) ≤ (n : Int) := by omega
  have u102 : ¬ (n : Int) ≤ 102 := by omega
  have l65 : (65 : Int) ≤ (n : Int) := by omega
  have u70 : ¬ (n : Int) ≤ 70 := by omega
  go_enter Tryz.func65, Tryz.ntmps65
  go_wp2
  go_ret
  exact ⟨rfl, rfl⟩
set_option maxHeartbeats 1000000 in
theorem isName_n (n : Nat) (w : World) (hn : n < 256) : Calls Tryz.prog 58 #[.int .u8 (n : Int)] w fun e w' => e = .returned (.bool (nameN n)) ∧ w' = w := by
  by_cases h0 : n < 45
  · have hv : nameN n = false := by simp [nameN, digN] <;> omega
    rw [hv]
    clear hv
    have l97 : ¬ (97 : Int) ≤ (n : Int) := by omega
    have u122 : (n : Int) ≤ 122 := by omega
    have l65 : ¬ (65 : Int) ≤ (n : Int) := by omega
    have u90 : (n : Int) ≤ 90 := by omega
    have l48 : ¬ (48 : Int) ≤ (n : Int) := by omega
    have u57 : (n : Int) ≤ 57 := by omega
    have q45 : ((n : Int) == 45) = false := by rw [beq_eq_false_iff_ne]; omega
    go_enter Tryz.func58, Tryz.ntmps58
    go_wp2
    go_ret
    exact ⟨rfl, rfl⟩
  by_cases h1 : n < 46
  · have hv : nameN n = true := by simp [nameN, digN] <;> omega
    rw [hv]
    clear hv
    have l97 : ¬ (97 : Int) ≤ (n : Int) := by omega
    have u122 : (n : Int) ≤ 122 := by omega
    have l65 : ¬ (65 : Int) ≤ (n : Int) := by omega
    have u90 : (n : Int) ≤ 90 := by omega
    have l48 : ¬ (48 : Int) ≤ (n : Int) := by omega
    have u57 : (n : Int) ≤ 57 := by omega
    have q45 : ((n : Int) == 45) = true := by rw [beq_iff_eq]; omega
    go_enter Tryz.func58, Tryz.ntmps58
    go_wp2
    go_ret
    exact ⟨rfl, rfl⟩
  by_cases h2 : n < 48
  · have hv : nameN n = false := by simp [nameN, digN] <;> omega
    rw [hv]
    clear hv
    have l97 : ¬ (97 : Int) ≤ (n : Int) := by omega
    have u122 : (n : Int) ≤ 122 := by omega
    have l65 : ¬ (65 : Int) ≤ (n : Int) := by omega
    have u90 : (n : Int) ≤ 90 := by omega
    have l48 : ¬ (48 : Int) ≤ (n : Int) := by omega
    have u57 : (n : Int) ≤ 57 := by omega
    have q45 : ((n : Int) == 45) = false := by rw [beq_eq_false_iff_ne]; omega
    go_enter Tryz.func58, Tryz.ntmps58
    go_wp2
    go_ret
    exact ⟨rfl, rfl⟩
  by_cases h3 : n < 58
  · have hv : nameN n = true := by simp [nameN, digN] <;> omega
    rw [hv]
    clear hv
    have l97 : ¬ (97 : Int) ≤ (n : Int) := by omega
    have u122 : (n : Int) ≤ 122 := by omega
    have l65 : ¬ (65 : Int) ≤ (n : Int) := by omega
    have u90 : (n : Int) ≤ 90 := by omega
    have l48 : (48 : Int) ≤ (n : Int) := by omega
    have u57 : (n : Int) ≤ 57 := by omega
    have q45 : ((n : Int) == 45) = false := by rw [beq_eq_false_iff_ne]; omega
    go_enter Tryz.func58, Tryz.ntmps58
    go_wp2
    go_ret
    exact ⟨rfl, rfl⟩
  by_cases h4 : n < 65
  · have hv : nameN n = false := by simp [nameN, digN] <;> omega
    rw [hv]
    clear hv
    have l97 : ¬ (97 : Int) ≤ (n : Int) := by omega
    have u122 : (n : Int) ≤ 122 := by omega
    have l65 : ¬ (65 : Int) ≤ (n : Int) := by omega
    have u90 : (n : Int) ≤ 90 := by omega
    have l48 : (48 : Int) ≤ (n : Int) := by omega
    have u57 : ¬ (n : Int) ≤ 57 := by omega
    have q45 : ((n : Int) == 45) = false := by rw [beq_eq_false_iff_ne]; omega
    go_enter Tryz.func58, Tryz.ntmps58
    go_wp2
    go_ret
    exact ⟨rfl, rfl⟩
  by_cases h5 : n < 71
  · have hv : nameN n = true := by simp [nameN, digN] <;> omega
    rw [hv]
    clear hv
    have l97 : ¬ (97 : Int) ≤ (n : Int) := by omega
    have u122 : (n : Int) ≤ 122 := by omega
    have l65 : (65 : Int) ≤ (n : Int) := by omega
    have u90 : (n : Int) ≤ 90 := by omega
    have l48 : (48 : Int) ≤ (n : Int) := by omega
    have u57 : ¬ (n : Int) ≤ 57 := by omega
    have q45 : ((n : Int) == 45) = false := by rw [beq_eq_false_iff_ne]; omega
    go_enter Tryz.func58, Tryz.ntmps58
    go_wp2
    go_ret
    exact ⟨rfl, rfl⟩
  by_cases h6 : n < 91
  · have hv : nameN n = true := by simp [nameN, digN] <;> omega
    rw [hv]
    clear hv
    have l97 : ¬ (97 : Int) ≤ (n : Int) := by omega
    have u122 : (n : Int) ≤ 122 := by omega
    have l65 : (65 : Int) ≤ (n : Int) := by omega
    have u90 : (n : Int) ≤ 90 := by omega
    have l48 : (48 : Int) ≤ (n : Int) := by omega
    have u57 : ¬ (n : Int) ≤ 57 := by omega
    have q45 : ((n : Int) == 45) = false := by rw [beq_eq_false_iff_ne]; omega
    go_enter Tryz.func58, Tryz.ntmps58
    go_wp2
    go_ret
    exact ⟨rfl, rfl⟩
  by_cases h7 : n < 97
  · have hv : nameN n = false := by simp [nameN, digN] <;> omega
    rw [hv]
    clear hv
    have l97 : ¬ (97 : Int) ≤ (n : Int) := by omega
    have u122 : (n : Int) ≤ 122 := by omega
    have l65 : (65 : Int) ≤ (n : Int) := by omega
    have u90 : ¬ (n : Int) ≤ 90 := by omega
    have l48 : (48 : Int) ≤ (n : Int) := by omega
    have u57 : ¬ (n : Int) ≤ 57 := by omega
    have q45 : ((n : Int) == 45) = false := by rw [beq_eq_false_iff_ne]; omega
    go_enter Tryz.func58, Tryz.ntmps58
    go_wp2
    go_ret
    exact ⟨rfl, rfl⟩
  by_cases h8 : n < 103
  · have hv : nameN n = true := by simp [nameN, digN] <;> omega
    rw [hv]
    clear hv
    have l97 : (97 : Int) ≤ (n : Int) := by omega
    have u122 : (n : Int) ≤ 122 := by omega
    have l65 : (65 : Int) ≤ (n : Int) := by omega
    have u90 : ¬ (n : Int) ≤ 90 := by omega
    have l48 : (48 : Int) ≤ (n : Int) := by omega
    have u57 : ¬ (n : Int) ≤ 57 := by omega
    have q45 : ((n : Int) == 45) = false := by rw [beq_eq_false_iff_ne]; omega
    go_enter Tryz.func58, Tryz.ntmps58
    go_wp2
    go_ret
    exact ⟨rfl, rfl⟩
  by_cases h9 : n < 123
  · have hv : nameN n = true := by simp [nameN, digN] <;> omega
    rw [hv]
    clear hv
    have l97 : (97 : Int) ≤ (n : Int) := by omega
    have u122 : (n : Int) ≤ 122 := by omega
    have l65 : (65 : Int) ≤ (n : Int) := by omega
    have u90 : ¬ (n : Int) ≤ 90 := by omega
    have l48 : (48 : Int) ≤ (n : Int) := by omega
    have u57 : ¬ (n : Int) ≤ 57 := by omega
    have q45 : ((n : Int) == 45) = false := by rw [beq_eq_false_iff_ne]; omega
    go_enter Tryz.func58, Tryz.ntmps58
    go_wp2
    go_ret
    exact ⟨rfl, rfl⟩
  have hv : nameN n = false := by simp [nameN, digN] <;> omega
  rw [hv]
  clear hv
  have l97 : (97 : Int) ≤ (n : Int) := by omega
  have u122 : ¬ (n : Int) ≤ 122 := by omega
  have l65 : (65 : Int) ≤ (n : Int) := by omega
  have u90 : ¬ (n : Int) ≤ 90 := by omega
  have l48 : (48 : Int) ≤ (n : Int) := by omega
  have u57 : ¬ (n : Int) ≤ 57 := by omega
  have q45 : ((n : Int) == 45) = false := by rw [beq_eq_false_iff_ne]; omega
  go_enter Tryz.func58, Tryz.ntmps58
  go_wp2
  go_ret
  exact ⟨rfl, rfl⟩
set_option maxHeartbeats 1000000 in
theorem hexValue_n (n : Nat) (w : World) (hn : n < 256) (hh : hexN n = true) : Calls Tryz.prog 66 #[.int .u8 (n : Int)] w fun e w' => e = .returned (.int .i64 ((hexVN n : Nat) : Int)) ∧ w' = w := by
  by_cases h0 : n < 45
  · exfalso; simp only [hexN, digN, Bool.or_eq_true, Bool.and_eq_true, decide_eq_true_eq] at hh; omega
  by_cases h1 : n < 46
  · exfalso; simp only [hexN, digN, Bool.or_eq_true, Bool.and_eq_true, decide_eq_true_eq] at hh; omega
  by_cases h2 : n < 48
  · exfalso; simp only [hexN, digN, Bool.or_eq_true, Bool.and_eq_true, decide_eq_true_eq] at hh; omega
  by_cases h3 : n < 58
  · have hv : ((hexVN n : Nat) : Int) = (n : Int) - 48 := by unfold hexVN; rw [if_pos (by omega)]; omega
    rw [hv]
    clear hv
    have l48 : (48 : Int) ≤ (n : Int) := by omega
    have u57 : (n : Int) ≤ 57 := by omega
    have l97 : ¬ (97 : Int) ≤ (n : Int) := by omega
    have u102 : (n : Int) ≤ 102 := by omega
    go_enter Tryz.func66, Tryz.ntmps66
    go_wp2
    go_ret
    exact ⟨rfl, rfl⟩
  by_cases h4 : n < 65
  · exfalso; simp only [hexN, digN, Bool.or_eq_true, Bool.and_eq_true, decide_eq_true_eq] at hh; omega
  by_cases h5 : n < 71
  · have hv : ((hexVN n : Nat) : Int) = (n : Int) - 65 + 10 := by unfold hexVN; rw [if_neg (by omega), if_neg (by omega)]; omega
    rw [hv]
    clear hv
    have l48 : (48 : Int) ≤ (n : Int) := by omega
    have u57 : ¬ (n : Int) ≤ 57 := by omega
    have l97 : ¬ (97 : Int) ≤ (n : Int) := by omega
    have u102 : (n : Int) ≤ 102 := by omega
    go_enter Tryz.func66, Tryz.ntmps66
    go_wp2
    go_ret
    exact ⟨rfl, rfl⟩
  by_cases h6 : n < 91
  · exfalso; simp only [hexN, digN, Bool.or_eq_true, Bool.and_eq_true, decide_eq_true_eq] at hh; omega
  by_cases h7 : n < 97
  · exfalso; simp only [hexN, digN, Bool.or_eq_true, Bool.and_eq_true, decide_eq_true_eq] at hh; omega
  by_cases h8 : n < 103
  · have hv : ((hexVN n : Nat) : Int) = (n : Int) - 97 + 10 := by unfold hexVN; rw [if_neg (by omega), if_pos (by omega)]; omega
    rw [hv]
    clear hv
    have l48 : (48 : Int) ≤ (n : Int) := by omega
    have u57 : ¬ (n : Int) ≤ 57 := by omega
    have l97 : (97 : Int) ≤ (n : Int) := by omega
    have u102 : (n : Int) ≤ 102 := by omega
    go_enter Tryz.func66, Tryz.ntmps66
    go_wp2
    go_ret
    exact ⟨rfl, rfl⟩
  by_cases h9 : n < 123
  · exfalso; simp only [hexN, digN, Bool.or_eq_true, Bool.and_eq_true, decide_eq_true_eq] at hh; omega
  exfalso; simp only [hexN, digN, Bool.or_eq_true, Bool.and_eq_true, decide_eq_true_eq] at hh; omega
theorem hexOf_some {c : UInt8} : (hexOf c).isSome = hexN c.toNat := by
  have all : ∀ n : Fin 256, (hexOf (UInt8.ofNat n.val)).isSome = hexN (UInt8.ofNat n.val).toNat := by decide +kernel
  have h := all ⟨c.toNat, c.toNat_lt⟩
  simpa using h
theorem hexOf_val {c : UInt8} : hexN c.toNat = true → (hexOf c).getD 0 = hexVN c.toNat := by
  have all : ∀ n : Fin 256, hexN (UInt8.ofNat n.val).toNat = true → (hexOf (UInt8.ofNat n.val)).getD 0 = hexVN (UInt8.ofNat n.val).toNat := by decide +kernel
  have h := all ⟨c.toNat, c.toNat_lt⟩
  simp only [UInt8.ofNat_toNat] at h
  exact h
theorem name_is {c : UInt8} : isNameByte c = nameN c.toNat := by
  have all : ∀ n : Fin 256, isNameByte (UInt8.ofNat n.val) = nameN (UInt8.ofNat n.val).toNat := by decide +kernel
  have h := all ⟨c.toNat, c.toNat_lt⟩
  simpa using h
theorem dig_is {c : UInt8} : isDigit c = digN c.toNat := rfl
end Go.Proofs.YtmodongnganbfaaGreatDoor.Rep
