/- The contract of the reader's take. -/
import Derived.Test.YtilfganjpgkjdaaDoorLj
namespace Go.Proofs.YtilfganjpgkjdaaDoor
open Go Go.RowKit

theorem ext_head_size (r : ByteArray) (n : Nat) (h : n ≤ r.size) : (r.extract 0 n).size = n := by
  rw [size_len, Lib.extract_data]
  simp
  exact Nat.min_eq_left h
theorem take_at (t : ByteArray) (k : Nat) (h : k < t.size) : t.data.toList.take (k + 1) = t.data.toList.take k ++ [t[k]] := by
  rw [List.take_succ_eq_append_getElem (by simpa using h)]; rfl

set_option maxHeartbeats 1000000 in
theorem take_any (B : Nat) (r : ByteArray) (ln c : Int) (n : Nat) (w : World) (hR : RdAt B r ln c w) (hn : n ≤ r.size) (hs : r.size ≤ 65536) (h1 : 1 ≤ ln) (h2 : 1 ≤ c) (h3 : ln ≤ 1000000) (h4 : c ≤ 1000000) :
    Calls Tryd.prog 29 #[.pointer (some ⟨B, 0, none⟩), .int .i64 n] w fun e w' => e = .returned (.string (r.extract 0 n)) ∧
      RdAt B (r.extract n r.size) (advL (r.data.toList.take n) ln c).1 (advL (r.data.toList.take n) ln c).2 w' ∧ w.grownBy w' (some B) := by
  have ht : (r.extract 0 n).data.toList = r.data.toList.take n := by rw [Lib.extract_data]; simp
  have hz := ext_head_size r n hn
  have c0 := hR.c0
  have HT := Lib.hid ht
  have HZ := Lib.hid hz
  clear ht hz
  go_enter Tryd.func29, Tryd.ntmps29
  go_wp2
  go_loopw [14] (fun i wr => ∃ k : Nat, k ≤ n ∧ i = .int .i64 k ∧ RdAt B r (advL ((r.extract 0 n).data.toList.take k) ln c).1 (advL ((r.extract 0 n).data.toList.take k) ln c).2 wr ∧ w.grownBy wr (some B)) (fun i _ => n - (intOf i).toNat)
  case atStart => exact ⟨0, Nat.zero_le _, rfl, by simpa [advL] using hR, grown_refl _ _⟩
  case round =>
    obtain ⟨k, hk, rfl, hRk, hg⟩ := hrel
    have hbd := adv_bd ((r.extract 0 n).data.toList.take k) ln c h1 h2
    have hlen : ((r.extract 0 n).data.toList.take k).length ≤ k := List.length_take_le _ _
    clear c0 hR
    have c0 := hRk.c0
    have c1 := hRk.c1
    have c2 := hRk.c2
    have f0 := hRk.f0
    have f1 := hRk.f1
    have f2 := hRk.f2
    have HR := Lib.hid hRk
    clear hRk
    by_cases hlt : k < n
    · have hlt' : k < (r.extract 0 n).size := by rw [HZ.out]; exact hlt
      have hst := adv_snoc ((r.extract 0 n).data.toList.take k) (r.extract 0 n)[k] ln c
      rw [← take_at _ k hlt'] at hst
      have HST := Lib.hid hst
      clear hst
      generalize hX : advL ((r.extract 0 n).data.toList.take k) ln c = x at *
      obtain ⟨x1, x2⟩ := x
      simp only at *
      clear hX
      by_cases hb : ((r.extract 0 n)[k].toNat : Int) = 10
      · have hb' : (((r.extract 0 n)[k].toNat : Int) == 10) = true := by simpa using hb
        have HB := Lib.hid hb
        clear hb
        go_wp2
        go_roundw
        case rel =>
          have := HST.out
          rw [if_pos HB.out] at this
          exact ⟨k + 1, by omega, by go_num, by rw [this]; exact ((HR.out.set2 _).set1 _).set2 _, grown_set (grown_set (grown_set hg _) _) _⟩
        case measure => simp [intOf]; omega
      · have hb' : (((r.extract 0 n)[k].toNat : Int) == 10) = false := by simpa using hb
        have HB := Lib.hid hb
        clear hb
        go_wp2
        go_roundw
        case rel =>
          have := HST.out
          rw [if_neg HB.out] at this
          exact ⟨k + 1, by omega, by go_num, by rw [this]; exact HR.out.set2 _, grown_set hg _⟩
        case measure => simp [intOf]; omega
    · obtain rfl : k = n := by omega
      have e : (r.extract 0 k).data.toList.take k = r.data.toList.take k := by rw [HT.out, List.take_take, Nat.min_self]
      go_wp2
      go_ret
      refine ⟨rfl, ?_, grown_set hg _⟩
      rw [← e]
      exact HR.out.set0 _
end Go.Proofs.YtilfganjpgkjdaaDoor
