/- A clause put in order: each literal once, rising; or nothing, if a variable stands there both ways. -/
import Derived.Test.YtpfoaaiedfidbaaGreatDoorDc
import Derived.Test.YtpfoaaiedfidbaaGreatDoorBe
import Derived.Laws.EntriesVeiled
namespace Go.Proofs.YtpfoaaiedfidbaaGreatDoor
open Go Go.RowKit

theorem among_any (A : Option Addr) (n c : Nat) (w : World) :
    Calls Tryz.prog 31 #[.slice A n c] w fun e w' => e = .returned (.func (.func 51) #[] #[.pointer (some ⟨w.heap.size, 0, none⟩)]) ∧ w' = w.alloc (.cells #[.slice A n c] 23) := by
  go_enter Tryz.func31, Tryz.ntmps31
  go_wp2
  go_ret
  exact ⟨rfl, rfl⟩
theorem among_in (b : Nat) (v : Value) (xs : List Int) (x : Int) (w : World) (B : Nat) (hc : w.cell? ⟨b, 0, none⟩ = some v) (h : Nums w B v xs) (hs : xs.Pairwise (· ≤ ·)) (hl : xs.length ≤ 1000000) :
    Calls Tryz.prog 51 #[.int .i64 x, .pointer (some ⟨b, 0, none⟩)] w fun e w' => e = .returned (.bool (hasB xs x)) ∧ ∃ q, w' = w.drewN q := by
  have HC := Lib.hid (search_any v xs x w B h hs hl)
  clear h hs
  go_enter Tryz.func51, Tryz.ntmps51
  go_wp2_with (go_at_call 52; refine (HC.out).mono ?_; rintro e w' ⟨k, rfl, q, rfl⟩)
  go_ret
  exact ⟨rfl, q, rfl⟩
theorem enters51 : ∀ args w, (callFunc 51 args).run Tryz.prog w = .ok (.enter 51 args) w := enters_of Tryz.func51 (by kernel_rfl) rfl
theorem enters46 : ∀ args w, (callFunc 46 args).run Tryz.prog w = .ok (.enter 46 args) w := enters_of Tryz.func46 (by kernel_rfl) rfl
theorem other_in (hb b : Nat) (v : Value) (xs : List Int) (x : Int) (w : World) (B : Nat) (hx : mayB x = true) (hc0 : w.cell? ⟨hb, 0, none⟩ = some (.func (.func 51) #[] #[.pointer (some ⟨b, 0, none⟩)])) (hc : w.cell? ⟨b, 0, none⟩ = some v) (h : Nums w B v xs) (hs : xs.Pairwise (· ≤ ·)) (hl : xs.length ≤ 1000000) :
    Calls Tryz.prog 46 #[.int .i64 x, .pointer (some ⟨hb, 0, none⟩)] w fun e w' => e = .returned (.bool (hasB xs (-x))) ∧ ∃ q, w' = w.drewN q := by
  have HC := Lib.hid (among_in b v xs (-x) w B hc h hs hl)
  have e51 := enters51
  obtain ⟨h0, h1, h2⟩ := mayB_iff.1 hx
  have g1 : (x == -x) = false := by simp; omega
  have g2 : (x != -x) = true := by simp; omega
  clear h hs hc hx h0
  go_enter Tryz.func46, Tryz.ntmps46
  go_wp2_with (go_at_call 51; refine (HC.out).mono ?_; rintro e w' ⟨rfl, q, rfl⟩)
  go_ret
  exact ⟨rfl, q, rfl⟩
/-- Does a variable stand there both ways? -/
def bothB (xs : List Int) : Bool := xs.any fun x => hasB xs (-x)
theorem bothB_iff {xs : List Int} : bothB xs = true ↔ ∃ n ∈ xs, -n ∈ xs := by
  unfold bothB
  rw [List.any_eq_true]
  exact ⟨fun ⟨n, h1, h2⟩ => ⟨n, h1, hasB_iff.1 h2⟩, fun ⟨n, h1, h2⟩ => ⟨n, h1, hasB_iff.2 h2⟩⟩
theorem bothB_no {xs : List Int} : bothB xs = false ↔ Cons xs := by
  rw [← Bool.not_eq_true, bothB_iff]
  exact ⟨fun h n h1 h2 => h ⟨n, h1, h2⟩, fun h ⟨n, h1, h2⟩ => h n h1 h2⟩
theorem bothB_upL (xs : List Int) : bothB (upL xs) = bothB xs := by
  rw [Bool.eq_iff_iff, bothB_iff, bothB_iff]
  exact ⟨fun ⟨n, h1, h2⟩ => ⟨n, mem_upL.1 h1, mem_upL.1 h2⟩, fun ⟨n, h1, h2⟩ => ⟨n, mem_upL.2 h1, mem_upL.2 h2⟩⟩
theorem rowMay_iff {xs : List Int} : rowMay xs = true ↔ ∀ n ∈ xs, mayB n = true := by simp [rowMay]
theorem rowMay_upL {xs : List Int} (h : rowMay xs = true) : rowMay (upL xs) = true := by
  rw [rowMay_iff] at h ⊢
  exact fun n hn => h n (mem_upL.1 hn)
theorem Rising.le {xs : List Int} (h : Rising xs) : xs.Pairwise (· ≤ ·) := h.imp fun h => by omega
theorem clean_tells (hb b : Nat) (v : Value) (xs : List Int) (w : World) (B : Nat) (hm : rowMay xs = true) (hhb : hb < w.heap.size) (hbb : b < w.heap.size) (hc0 : w.cell? ⟨hb, 0, none⟩ = some (.func (.func 51) #[] #[.pointer (some ⟨b, 0, none⟩)])) (hc : w.cell? ⟨b, 0, none⟩ = some v) (h : Nums w B v xs) (hB : B ≤ w.heap.size) (hs : xs.Pairwise (· ≤ ·)) (hl : xs.length ≤ 1000000) :
    Tells 46 #[.pointer (some ⟨hb, 0, none⟩)] (fun x => hasB xs (-x)) xs w := fun W x hbl hx =>
  (other_in hb b v xs x W B (rowMay_iff.1 hm x hx) ((hbl.cell (p := ⟨hb, 0, none⟩) hhb).trans hc0) ((hbl.cell (p := ⟨b, 0, none⟩) hbb).trans hc) (h.below hbl hB) hs hl).mono fun e w' ⟨he, q, hq⟩ => ⟨he, by rw [hq]; exact ⟨rfl, rfl, rfl, Nat.le_refl _, fun _ _ => rfl⟩⟩
/-- What Clean tells. -/
def CleanPost (xs : List Int) (w : World) (e : Ending) (w' : World) : Prop :=
  Below w.heap.size w w' ∧ ((bothB xs = false ∧ ∃ v', e = .returned (.tuple #[v', .bool true]) ∧ Own w' w.heap.size v' (upL xs)) ∨ (bothB xs = true ∧ e = .returned (.tuple #[.slice none 0 0, .bool false])))
set_option maxHeartbeats 1600000 in
theorem clean_any (v : Value) (xs : List Int) (w : World) (B : Nat) (h : Nums w B v xs) (hl : xs.length ≤ 100000) (hm : rowMay xs = true) : Calls Tryz.prog 25 #[v] w (CleanPost xs w) := by
  have HC := Lib.hid (clone_own v xs w B h hl)
  have e46 := enters46
  have HM := Lib.hid hm
  have HL := Lib.hid hl
  clear h hm hl
  go_enter Tryz.func25, Tryz.ntmps25
  go_wp2_with fail
  refine (HC.out).mono ?_
  rintro e w1 ⟨v1, rfl, ho1, hb1⟩
  have HO1 := Lib.hid ho1
  have HB1 := Lib.hid hb1
  clear ho1 hb1
  go_wp2_with fail
  refine (sort_own v1 xs w1 w.heap.size HO1.out (by have := HL.out; omega)).mono ?_
  rintro e w2 ⟨rfl, ho2, hg2⟩
  have HO2 := Lib.hid ho2
  have HB2 := Lib.hid (HB1.out.grown hg2 HB1.out.size (fun k hk => (HO1.out.lt k hk).1))
  clear ho2 hg2
  go_wp2_with fail
  refine (compact_own v1 (srt xs) w2 w.heap.size HO2.out (by rw [srt_len]; have := HL.out; omega)).mono ?_
  rintro e w3 ⟨v3, rfl, ho3, hg3, _⟩
  have HO3 := Lib.hid (show Own w3 w.heap.size v3 (upL xs) from ho3)
  have HB3 := Lib.hid (HB2.out.grown hg3 HB2.out.size (fun k hk => (HO2.out.lt k hk).1))
  clear ho3 hg3
  obtain ⟨A, c, e3⟩ := HO3.out.form
  obtain ⟨n, hn⟩ : ∃ n, (upL xs).length = n := ⟨_, rfl⟩
  rw [hn] at e3
  have HN := Lib.hid hn
  subst e3
  clear hn
  go_wp2_with fail
  refine (among_any A n c w3).mono ?_
  rintro e w4 ⟨rfl, rfl⟩
  have hup := upL_len xs
  have HK := Lib.hid (contains_any 46 #[.pointer (some ⟨w3.heap.size + 1, 0, none⟩)] (fun x => hasB (upL xs) (-x)) e46 (.slice A n c) (upL xs) ((w3.alloc (.cells #[.slice A n c] 23)).alloc (.cells #[.func (.func 51) #[] #[.pointer (some ⟨w3.heap.size, 0, none⟩)]] 40)) w3.heap.size
    ((HO3.out.nums).keep fun p hp => (World.cell?_alloc_lt _ _ p (by simp; omega)).trans (World.cell?_alloc_lt _ _ p hp)) (by simp; omega) (by have := HL.out; omega)
    (clean_tells (w3.heap.size + 1) w3.heap.size (.slice A n c) (upL xs) _ w3.heap.size (rowMay_upL HM.out) (by simp) (by simp; omega) (by simp)
      ((World.cell?_alloc_lt _ _ _ (by simp)).trans (cell_new _ _ _)) ((HO3.out.nums).keep fun p hp => (World.cell?_alloc_lt _ _ p (by simp; omega)).trans (World.cell?_alloc_lt _ _ p hp)) (by simp; omega) (upL_rising xs).le (by have := HL.out; omega)))
  clear hup
  have hKe : (upL xs).any (fun x => hasB (upL xs) (-x)) = bothB xs := bothB_upL xs
  rw [hKe] at HK
  clear hKe
  cases hT : bothB xs with
  | true =>
    have HT := Lib.hid hT
    rw [hT] at HK
    clear hT
    go_wp2_with (go_at_call 43; refine (HK.out).mono ?_; rintro e w5 ⟨rfl, hb5⟩; have HB5 := Lib.hid hb5; clear hb5)
    go_ret2
    exact ⟨((HB3.out.alloc HB3.out.size _).alloc (by have := HB3.out.size; simp; omega) _).trans (HB5.out.mono (by have := HB3.out.size; simp; omega)), .inr ⟨HT.out, rfl⟩⟩
  | false =>
    have HT := Lib.hid hT
    rw [hT] at HK
    clear hT
    go_wp2_with (go_at_call 43; refine (HK.out).mono ?_; rintro e w5 ⟨rfl, hb5⟩; have HB5 := Lib.hid hb5; clear hb5)
    go_ret2
    exact ⟨((HB3.out.alloc HB3.out.size _).alloc (by have := HB3.out.size; simp; omega) _).trans (HB5.out.mono (by have := HB3.out.size; simp; omega)), .inl ⟨HT.out, _, rfl, Own.below (World.ownsRow.alloc (World.ownsRow.alloc HO3.out _) _) HB5.out (Nat.le_refl _)⟩⟩
end Go.Proofs.YtpfoaaiedfidbaaGreatDoor
