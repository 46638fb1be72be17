/-
  mac.Derive, by contract.
-/
import Derived.Test.YtojbinpicoeppaaMcRefD

import Derived.Test.YtojbinpicoeppaaCi

namespace Go.Proofs.Ytojbinpicoeppaa

open Go.RowKit

open Go.Great

theorem not64 {v : Nat} (h : v < 18446744073709551616) : bits .xor .u64 IntKind.u64.max ((v : Nat) : Int) = (18446744073709551615 : Int) - ((v : Nat) : Int) := by
  have p : (2 : Nat) ^ 64 = 18446744073709551616 := by decide
  have e : (18446744073709551615 ^^^ v : Nat) = 18446744073709551615 - v := by
    have h1 : (BitVec.allOnes 64 ^^^ BitVec.ofNat 64 v).toNat = (~~~ BitVec.ofNat 64 v).toNat := by rw [BitVec.allOnes_xor]
    rw [BitVec.toNat_xor, BitVec.toNat_not, BitVec.toNat_allOnes, BitVec.toNat_ofNat, p, Nat.mod_eq_of_lt h] at h1
    exact h1
  have h2 := u64_xor_nat 18446744073709551615 v (by decide) h
  rw [e, Int.natCast_sub (by omega)] at h2
  exact h2

end Go.Proofs.Ytojbinpicoeppaa
