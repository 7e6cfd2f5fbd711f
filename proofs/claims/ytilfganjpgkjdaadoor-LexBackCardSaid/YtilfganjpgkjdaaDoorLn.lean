/- The contract of the reader's token: names and signs. -/
import Derived.Test.YtilfganjpgkjdaaDoorLm
namespace Go.Proofs.YtilfganjpgkjdaaDoor
open Go Go.RowKit

theorem kept_cells {W w1 : World} {B b : Nat} (hg : W.grownBy w1 (some B)) (hne : b ≠ B) (hb : b < W.heap.size) :
    (∀ o, w1.cell? ⟨b, o, none⟩ = W.cell? ⟨b, o, none⟩) ∧ (∀ o, w1.frozen? ⟨b, o, none⟩ = W.frozen? ⟨b, o, none⟩) :=
  ⟨fun _ => World.cell?_of_block (hg.block b hb (fun e => hne (Option.some.inj e))), fun _ => World.frozen?_of_block (hg.block b hb (fun e => hne (Option.some.inj e)))⟩

theorem both_set {w w1 : World} {B b o : Nat} {r : ByteArray} {ln c : Int} (hB : B < w.heap.size) (hb : w.heap.size ≤ b) (v : Value) (h : RdAt B r ln c w1 ∧ w.grownBy w1 (some B)) :
    RdAt B r ln c (w1.setCell ⟨b, o, none⟩ v) ∧ w.grownBy (w1.setCell ⟨b, o, none⟩ v) (some B) := by
  refine ⟨h.1.kept (row := some b) (grown_set (grown_refl _ _) v) (fun e => by have := Option.some.inj e; omega), ?_⟩
  have hb' := (Below.refl w.heap.size w1).setCell (p := ⟨b, o, none⟩) hb v
  have hg := h.2
  exact ⟨hb'.os.trans hg.os, hb'.tape.trans hg.tape, hb'.output.trans hg.output, Nat.le_trans hg.size hb'.size, fun k hk hr => (hb'.block k hk).trans (hg.block k hk hr)⟩

set_option maxHeartbeats 2000000 in
theorem token_word (B : Nat) (r : ByteArray) (ln c kd : Int) (n : Nat) (w : World) (hR : RdIn B r ln c w) (ht : Signs w) (h0 : 0 < r.size)
    (hkd : firstK r.data.toList = kd) (hn : firstN r.data.toList = n) (hn0 : 0 < n) (hnr : n ≤ r.size) (hk1 : (kd != 1) = true) :
    Calls Tryd.prog 22 #[.pointer (some ⟨B, 0, none⟩)] w fun e w' => e = .returned (.tuple #[tokV kd (r.extract 0 n) 0 ln c, .int .i64 0]) ∧
      RdAt B (r.extract n r.size) (advL (r.data.toList.take n) ln c).1 (advL (r.data.toList.take n) ln c).2 w' ∧ w.grownBy w' (some B) := by
  have c0 := hR.at_.c0
  have c1 := hR.at_.c1
  have c2 := hR.at_.c2
  have hB := hR.at_.lt
  have hE := not_empty h0
  have hs := hR.hs
  have hl1 := hR.l2
  have hl2 := hR.c2
  have hm : r.size ≤ maxLen := by unfold maxLen; omega
  have hF := Lib.hid (fun w ht => first_any r w hm h0 ht)
  rw [hkd, hn] at hF
  have hTk := Lib.hid (fun w hA => take_any B r ln c n w hA hnr hs hR.l1 hR.c1 (by omega) (by omega))
  have HT := Lib.hid ht
  have HR := Lib.hid hR
  clear hn ht hR hm hkd
  go_enter Tryd.func22, Tryd.ntmps22
  go_wp2
  go_region
  go_wp2_with (first
    | (go_at_call 30; refine (hF.out _ (signs_kept HT.out (grown_drew (grown_alloc (grown_alloc (grown_refl _ none) _) _)))).mono ?_; rintro e w' ⟨rfl, rfl⟩)
    | (go_at_call 29; refine (hTk.out _ (HR.out.at_.kept (row := none) (grown_drew (grown_alloc (grown_alloc (grown_refl _ none) _) _)) (by simp))).mono ?_; rintro e w1 ⟨rfl, hA, hgr⟩
       obtain ⟨e1, g1⟩ := kept_cells (b := w.heap.size) hgr (by omega) (by simp; omega)
       obtain ⟨e2, g2⟩ := kept_cells (b := w.heap.size + 1) hgr (by omega) (by simp)
       have HA := Lib.hid hA
       have HG := Lib.hid hgr
       clear hA hgr))
  go_light
  refine bodyPost_ret (v := .tuple #[tokV kd (r.extract 0 n) 0 ln c, .int .i64 0]) (by simp [results, Tryd.results22, go_sem, tokV, e1]) rfl ⟨rfl, ?_⟩
  repeat refine both_set hB (by omega) _ ?_
  exact ⟨HA.out, grown_trans (grown_drew (grown_alloc (grown_alloc (grown_refl _ _) _) _)) HG.out⟩
end Go.Proofs.YtilfganjpgkjdaaDoor
