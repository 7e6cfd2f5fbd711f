/- The table of powers that the library reads; Cut at a separator of one byte; a word that is a literal. -/
import Derived.Test.YtpfoaaiedfidbaaGreatDoorGa
import Derived.Test.YtpfoaaiedfidbaaGreatDoorBa
import Derived.BigGuard
import Derived.Lib.CutLaws
import Derived.Lib.AtoiErrMem
import Derived.Lib.Atoi
import Derived.Shelf.RegionOpenPlain
namespace Go.Proofs.YtpfoaaiedfidbaaGreatDoor
open Go Go.RowKit Go.Sort Go.Lib

/-- The table of powers that the library reads. -/
def Pow (w : World) : Prop := Lib.TabIs Tryz.prog w "internal/strconv.uint64pow10" .u64 Lib.pow10Tab
theorem powNamed : Tryz.prog.globalNamed "internal/strconv.uint64pow10" = some 1 := by kernel_rfl
theorem Pow.under {L : Nat} {w w' : World} (h : Pow w) (hb : Below L w w') (hL : 1 < L) : Pow w' := by
  unfold Pow Lib.TabIs World.var? at h ⊢
  rw [powNamed] at h ⊢
  simp only [Option.bind_some] at h ⊢
  rw [hb.block 1 hL]
  exact h
theorem Pow.lt {w : World} (h : Pow w) : 1 < w.heap.size := by
  unfold Pow Lib.TabIs World.var? at h
  rw [powNamed] at h
  simp only [Option.bind_some] at h
  rcases Nat.lt_or_ge 1 w.heap.size with h' | h'
  · exact h'
  · rw [Array.getElem?_eq_none h'] at h; cases h
theorem below_grow (w : World) (k : Nat) (os : Array Obj) : Below w.heap.size w (Go.Sort.grow (w.drewN k) os) := by
  have hd : (w.drewN k).heap = w.heap := by simp [World.drewN]
  refine ⟨by simp [Go.Sort.grow, World.drewN], by simp [Go.Sort.grow, World.drewN], by simp [Go.Sort.grow, World.drewN], by simp [Go.Sort.grow], fun b hb => ?_⟩
  simp only [Go.Sort.grow, hd]
  exact Array.getElem?_append_left hb
set_option maxHeartbeats 2000000 in
set_option maxRecDepth 100000 in
theorem slcut_any (s : ByteArray) (c : UInt8) (i : Nat) (w : World) (h : Lib.indexByte s.data.toList c = i) (hi : i + 1 ≤ s.size) (hs : s.size < 4294967281) :
    Calls Tryz.prog 57 #[.string s, .string ⟨#[c]⟩] w fun e w' => e = .returned (.tuple #[.string (s.extract 0 i), .string (s.extract (i + 1) s.size), .bool true]) ∧ ∃ n, w' = w.drewN n := by
  have mixed : Tryz.prog.follows Departure.mixedOrders = true := by kernel_rfl
  have hw1 : IntKind.i64.wrap ((i : Int) + 1) = (i : Int) + 1 := IntWalk.i64_in _ (by omega)
  have c1 : (0 : Int) ≤ ↑i := by omega
  have c2 : (↑i : Int) ≤ ↑s.size := by omega
  have c3 : (0 : Int) ≤ ↑i + 1 := by omega
  have c4 : (↑i + 1 : Int) ≤ ↑s.size := by omega
  have e1 : ((i : Int) + 1).toNat = i + 1 := by omega
  go_enter Tryz.func57, Tryz.ntmps57
  go_wp2_with (go_at_call 76; refine (Tryz.stringslite_Index_one _ _ _).mono ?_; rintro e w' ⟨rfl, rfl⟩; rw [h])
  go_region_o
  go_wp2
  go_ret3
  exact ⟨rfl, 1, rfl⟩
set_option maxHeartbeats 2000000 in
set_option maxRecDepth 100000 in
theorem cut_any (s : ByteArray) (c : UInt8) (i : Nat) (w : World) (h : Lib.indexByte s.data.toList c = i) (hi : i + 1 ≤ s.size) (hs : s.size < 4294967281) :
    Calls Tryz.prog 39 #[.string s, .string ⟨#[c]⟩] w fun e w' => e = .returned (.tuple #[.string (s.extract 0 i), .string (s.extract (i + 1) s.size), .bool true]) ∧ ∃ n, w' = w.drewN n := by
  go_enter Tryz.func39, Tryz.ntmps39
  go_wp2_with (go_at_call 57; refine (slcut_any s c i _ h hi hs).mono ?_; rintro e w' ⟨rfl, n, rfl⟩)
  go_ret3
  exact ⟨rfl, n, rfl⟩
theorem below_drewN (w : World) (n : Nat) : Below w.heap.size w (w.drewN n) :=
  ⟨rfl, rfl, rfl, Nat.le_refl _, fun _ _ => rfl⟩
theorem cut_below (s : ByteArray) (c : UInt8) (i : Nat) (w : World) (h : Lib.indexByte s.data.toList c = i) (hi : i + 1 ≤ s.size) (hs : s.size < 4294967281) :
    Calls Tryz.prog 39 #[.string s, .string ⟨#[c]⟩] w fun e w' => e = .returned (.tuple #[.string (s.extract 0 i), .string (s.extract (i + 1) s.size), .bool true]) ∧ Below w.heap.size w w' :=
  (cut_any s c i w h hi hs).mono fun e w' ⟨he, n, hw⟩ => ⟨he, by rw [hw]; exact below_drewN _ _⟩
set_option maxHeartbeats 2000000 in
set_option maxRecDepth 100000 in
/-- A word that is a literal. -/
theorem literal_any (s : ByteArray) (n : Int) (w : World) (hp : Pow w) (hl : s.size ≤ 18) (h : Lib.atoi s.data.toList = some n) (hm : mayB n = true) (hs : (⟨(Lib.itoa n).toArray⟩ : ByteArray) = s) (h0 : -9223372036854775808 ≤ n) (h1 : n ≤ 9223372036854775807) :
    Calls Tryz.prog 59 #[.string s] w fun e w' => e = .returned (.tuple #[.int .i64 n, .bool true]) ∧ Below w.heap.size w w' := by
  have HA := Lib.hid (Tryz.strconv_Atoi s n hl h w)
  clear h
  go_enter Tryz.func59, Tryz.ntmps59
  go_wp2_with (go_at_call 78; refine (HA.out).mono ?_)
  rintro e w1 ⟨rfl, t, rfl⟩
  have hb := Lib.bytesWorld_below w 5 t
  have HI := Lib.hid (Tryz.strconv_Itoa n h0 h1 (Lib.bytesWorld w 5 t) (hp.under hb hp.lt))
  go_wp2_with (go_at_call 41; refine (may_any n _).mono ?_; rintro e w' ⟨rfl, rfl⟩; rw [hm])
  go_wp2_with (go_at_call 36; refine (HI.out).mono ?_; rintro e w' ⟨rfl, k, os, rfl⟩; rw [hs])
  all_goals go_ret2
  all_goals exact ⟨rfl, hb.trans ((below_grow _ k os).mono hb.size)⟩
end Go.Proofs.YtpfoaaiedfidbaaGreatDoor
