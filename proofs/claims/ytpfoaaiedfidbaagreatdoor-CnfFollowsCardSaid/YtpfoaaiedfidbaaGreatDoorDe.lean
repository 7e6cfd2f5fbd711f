/- Whether a clause is clean; the numbers but a variable's; the first half of resolving. -/
import Derived.Test.YtpfoaaiedfidbaaGreatDoorDd
namespace Go.Proofs.YtpfoaaiedfidbaaGreatDoor
open Go Go.RowKit Go.Sort

/-- Is a clause as Clean tells it? -/
def cleanB (xs : List Int) : Bool := !bothB xs && sameB (upL xs) xs
theorem upL_of_rising {xs : List Int} (h : Rising xs) : upL xs = xs := rising_ext (upL_rising xs) h (fun _ => mem_upL)
theorem cleanB_iff {xs : List Int} : cleanB xs = true ↔ Cons xs ∧ Rising xs := by
  unfold cleanB
  rw [Bool.and_eq_true, Bool.not_eq_true', bothB_no]
  unfold sameB
  rw [decide_eq_true_iff]
  exact ⟨fun ⟨h1, h2⟩ => ⟨h1, h2 ▸ upL_rising xs⟩, fun ⟨h1, h2⟩ => ⟨h1, upL_of_rising h2⟩⟩
set_option maxHeartbeats 800000 in
theorem isClean_any (v : Value) (xs : List Int) (w : World) (B : Nat) (h : Nums w B v xs) (hl : xs.length ≤ 100000) (hm : rowMay xs = true) (hB : B ≤ w.heap.size) :
    Calls Tryz.prog 30 #[v] w fun e w' => e = .returned (.bool (cleanB xs)) ∧ Below w.heap.size w w' := by
  have HC := Lib.hid (clean_any v xs w B h hl hm)
  have HN := Lib.hid h
  have HL := Lib.hid hl
  clear hl hm
  obtain ⟨A, c, rfl, _⟩ := h
  go_enter Tryz.func30, Tryz.ntmps30
  go_wp2_with fail
  refine (HC.out).mono ?_
  rintro e w1 ⟨hb, (⟨hno, v1, rfl, ho⟩ | ⟨hyes, rfl⟩)⟩
  · have HB := Lib.hid hb
    have hul := upL_len xs
    have HE := Lib.hid (equal_any v1 (.slice A xs.length c) (upL xs) xs w1 w1.heap.size B ho.nums (HN.out.below hb hB) (by have := HL.out; omega) (by have := HL.out; omega))
    have hin := Lib.hid (show cleanB xs = sameB (upL xs) xs by unfold cleanB; rw [hno]; rfl)
    clear hno hb ho hul
    go_wp2_with (go_at_call 50; refine (HE.out).mono ?_; rintro e w2 ⟨rfl, q, rfl⟩)
    go_ret
    exact ⟨ret_bool hin.out.symm, below_drewN' HB.out q⟩
  · have HB := Lib.hid hb
    have hin := Lib.hid (show cleanB xs = false by unfold cleanB; rw [hyes]; rfl)
    clear hyes hb
    go_wp2
    go_ret
    exact ⟨ret_bool hin.out.symm, HB.out⟩
/-- Is a number the variable, one way or the other? -/
def delB (v x : Int) : Bool := x == v || x == -v
theorem del_in (b : Nat) (v x : Int) (w : World) (hv0 : 0 < v) (hv1 : v ≤ 1048576) (hc : w.cell? ⟨b, 0, none⟩ = some (.int .i64 v)) :
    Calls Tryz.prog 34 #[.int .i64 x, .pointer (some ⟨b, 0, none⟩)] w fun e w' => e = .returned (.bool (delB v x)) ∧ ∃ q, w' = w.drewN q := by
  by_cases h1 : x = v
  · have g1 : (x == v) = true := by simpa using h1
    have hin := Lib.hid (show delB v x = true by unfold delB; rw [g1]; rfl)
    clear h1
    go_enter Tryz.func34, Tryz.ntmps34
    go_wp2
    go_ret
    exact ⟨ret_bool hin.out.symm, 0, rfl⟩
  · have g1 : (x == v) = false := by simpa using h1
    obtain ⟨t, ht⟩ : ∃ t, (x == -v) = t := ⟨_, rfl⟩
    have hin := Lib.hid (show delB v x = t by unfold delB; rw [g1, ht]; rfl)
    clear h1
    go_enter Tryz.func34, Tryz.ntmps34
    go_wp2
    go_ret
    exact ⟨ret_bool hin.out.symm, 0, rfl⟩
theorem enters34 : ∀ args w, (callFunc 34 args).run Tryz.prog w = .ok (.enter 34 args) w := enters_of Tryz.func34 (by kernel_rfl) rfl
theorem delete_own (b : Nat) (x : Int) (v : Value) (xs : List Int) (w : World) (base : Nat) (h : Own w base v xs) (h0 : 0 < xs.length) (hl : xs.length ≤ 1000000) (hv0 : 0 < x) (hv1 : x ≤ 1048576) (hb : b < base) (hbw : base ≤ w.heap.size) (hc : w.cell? ⟨b, 0, none⟩ = some (.int .i64 x)) :
    Calls Tryz.prog 32 #[v, .func (.func 34) #[] #[.pointer (some ⟨b, 0, none⟩)]] w fun e w' => ∃ v', e = .returned v' ∧ Own w' base v' (xs.filter fun y => !delB x y) ∧ w.grownBy w' v.ownBlock := by
  rcases h.2 with ⟨_, h1⟩ | ⟨g, cap, cur, rfl, hg, hbk, h1, h2, h3, h4⟩
  · omega
  · have hg1 : g < w.heap.size := (Array.getElem?_eq_some_iff.1 hbk).1
    have hp : PredAt Tryz.prog 34 #[.pointer (some ⟨b, 0, none⟩)] (Value.int .i64) (delB x) w := fun W y hbl =>
      (del_in b x y W hv0 hv1 ((hbl.cell (p := ⟨b, 0, none⟩) (by show b < _; omega)).trans hc))
    have hpo : PredOver Tryz.prog 34 #[.pointer (some ⟨b, 0, none⟩)] (Value.int .i64) (delB x) g 0 xs.toArray.size w := fun n os dk y hdk => by
      refine del_in b x y _ hv0 hv1 ?_
      show (grow (putRow (Value.int .i64) (Sort.ahead w n) g 0 dk) os).cell? ⟨b, 0, none⟩ = _
      rw [cell?_grow _ _ _ (by show b < _; simp; omega), cell?_putRow_other _ _ _ _ _ _ (.inl (by show b ≠ g; omega))]
      exact hc
    have := Tryz.slices_DeleteFunc (Value.int .i64) (fun _ => rfl) (delB x) 34 #[.pointer (some ⟨b, 0, none⟩)] enters34 0 (fun w => by kernel_rfl) g 0 cap xs.toArray w hp hpo h.holds (by simp; omega) (by simpa using h1)
    rw [List.size_toArray] at this
    refine this.mono fun e w' ⟨he, q, hw⟩ => ⟨_, he, ?_⟩
    have hfl : (xs.filter fun y => !delB x y).length ≤ xs.length := List.length_filter_le _ _
    have := own_put (q := q) (os := #[]) (d := ((xs.filter fun y => !delB x y) ++ List.replicate (xs.length - (xs.filter fun y => !delB x y).length) 0).toArray) (xs := xs.filter fun y => !delB x y) hg hbk h2 (by omega) (by simp; omega) (by simp) (by simp)
    rw [grow_empty] at this
    rw [hw]
    exact this
end Go.Proofs.YtpfoaaiedfidbaaGreatDoor
