/- The contract of the document's Same, where the tokens are the same. -/
import Derived.Test.YtilfganjpgkjdaaDoorLs
import Derived.Test.YtilfganjpgkjdaaDoorLu
namespace Go.Proofs.YtilfganjpgkjdaaDoor
open Go Go.RowKit

theorem same_nil (w : World) : Calls Tryd.prog 14 #[.slice none 0 0, .slice none 0 0, .bool false] w fun e w' => e = .returned (.bool true) ∧ Below w.heap.size w w' := by
  go_enter Tryd.func14, Tryd.ntmps14
  go_wp2
  go_loop [7] (fun i => i = .int .i64 0) (fun _ => 0)
  case atStart => rfl
  case round =>
    subst hrel
    go_wp2
    go_ret
    exact ⟨rfl, Below.refl _ _⟩
theorem bare_at {l m : List Tok} (h : l.map Tok.bare = m.map Tok.bare) (i : Nat) (h1 : i < l.length) (h2 : i < m.length) : l[i].kind = m[i].kind ∧ l[i].text = m[i].text ∧ l[i].num = m[i].num := by
  have := congrArg (fun x => x[i]?) h
  simp [h1, h2, Tok.bare] at this
  exact this
set_option maxHeartbeats 4000000 in
theorem same_any (g cap g' cap' : Nat) (l m : List Tok) (w : World) (hr : RowAt g l w) (hr' : RowAt g' m w) (hg : g < w.heap.size) (hg' : g' < w.heap.size) (hn : l.length ≤ 100000) (hs : l.map Tok.bare = m.map Tok.bare) :
    Calls Tryd.prog 14 #[.slice (some ⟨g, 0, none⟩) l.length cap, .slice (some ⟨g', 0, none⟩) m.length cap', .bool false] w fun e w' => e = .returned (.bool true) ∧ Below w.heap.size w w' := by
  have hlen : l.length = m.length := by have := congrArg List.length hs; simpa using this
  have HS := Lib.hid hs
  have HR := Lib.hid hr
  have HR' := Lib.hid hr'
  have HLEN := Lib.hid hlen
  rw [← hlen]
  clear hs hr hr' hlen
  go_enter Tryd.func14, Tryd.ntmps14
  go_wp2
  go_loopw [7] (fun i wr => ∃ k : Nat, k ≤ l.length ∧ i = .int .i64 k ∧ Below w.heap.size w wr) (fun i _ => l.length - (intOf i).toNat)
  case atStart => exact ⟨0, Nat.zero_le _, rfl, Below.refl _ _⟩
  case round =>
    obtain ⟨k, hk, rfl, hb⟩ := hrel
    have hz := hb.size
    have hgw : g < wr.heap.size := by omega
    have hgw' : g' < wr.heap.size := by omega
    by_cases hlt : k < l.length
    · have hlt' : k < m.length := by rw [← HLEN.out]; exact hlt
      have ht := (HR.out k hlt).below hb hg
      have ht' := (HR'.out k hlt').below hb hg'
      obtain ⟨e1, e2, e3⟩ := bare_at HS.out k hlt hlt'
      generalize l[k] = t at *
      generalize m[k] = t' at *
      obtain ⟨tk, tt, tn, tl, tc⟩ := t
      obtain ⟨tk', tt', tn', tl', tc'⟩ := t'
      simp only at e1 e2 e3
      subst e1 e2 e3
      have c0 := ht.fk
      have c1 := ht.ft
      have c2 := ht.fm
      have c3 := ht.fl
      have c4 := ht.fc
      have d0 := ht'.fk
      have d1 := ht'.ft
      have d2 := ht'.fm
      have d3 := ht'.fl
      have d4 := ht'.fc
      clear ht ht' hlt'
      simp only at c0 c1 c2 c3 c4 d0 d1 d2 d3 d4
      go_wp2
      go_region
      go_wp2
      all_goals
        go_light
        exact ⟨⟨k + 1, by omega, by go_num, ((hb.alloc (by omega) _).alloc (by simp; omega) _).drew⟩, by simp [intOf]; omega⟩
    · go_wp2
      go_ret
      exact ⟨rfl, hb⟩
end Go.Proofs.YtilfganjpgkjdaaDoor
