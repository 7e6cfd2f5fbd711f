/- The contract of Lex. -/
import Derived.Test.YtilfganjpgkjdaaDoorLq
namespace Go.Proofs.YtilfganjpgkjdaaDoor
open Go Go.RowKit

set_option maxHeartbeats 4000000 in
theorem lex_any (s : ByteArray) (w : World) (hs : s.size ≤ 65536) (ht : Signs w) : Calls Tryd.prog 12 #[.string s] w (LexPost s w) := by
  have hC := Lib.hid (clone_any s w hs)
  have HT := Lib.hid ht
  clear ht
  obtain ⟨i0, hi, hz0, hz1, hz2⟩ := info_parts Tryd.info37
  have HI := Lib.hid hi
  have HZ0 := Lib.hid hz0
  have HZ1 := Lib.hid hz1
  have HZ2 := Lib.hid hz2
  clear hi hz0 hz1 hz2
  go_enter Tryd.func12, Tryd.ntmps12
  go_wp2_with (go_at_call 20; refine (hC.out).mono ?_; rintro e w1 ⟨rfl, hb⟩)
  have hB1 : w.heap.size ≤ w1.heap.size := hb.size
  go_loopw [7] (fun v wr => LexRel s w w1.heap.size v wr) (fun _ wr => restLen w1.heap.size wr)
  case atStart =>
    refine ⟨s, 1, 1, [], ⟨⟨?_, ?_, ?_, ?_, ?_, ?_⟩, hs, by decide, by decide, by omega, by omega⟩, ?_, World.ownsRow_nil _ _ _ _, by simp, (hb.alloc (by omega) _)⟩
    · simp [go_sem]
    · simp [go_sem]
    · simp [go_sem]
    · simp [go_sem]
    · simp [go_sem]
    · simp [go_sem]
    · cases lexG s.data.toList 1 1 <;> simp [Res.pre]
  case round =>
    obtain ⟨r, ln, c, acc, hR, hk, hown, hcnt, hbl⟩ := hrel
    have hlt := hR.at_.lt
    have hrest := Lib.hid hR.at_.rest
    have HS := Lib.hid (skip_any w1.heap.size r ln c wr hR)
    have HK := Lib.hid hk
    clear hk hR hb
    go_wp2_with fail
    refine (HS.out).mono ?_
    rintro e w2 ⟨rfl, r2, ln2, c2, hR2, hk2, hle2, hg2⟩
    obtain ⟨hown2, hbl2⟩ := kept_all hB1 hlt hown hbl hg2
    have hlt2 : w1.heap.size < w2.heap.size := hR2.at_.lt
    have HK2 := Lib.hid hk2
    have hsg := Lib.hid (HT.out.below hbl2)
    clear hown hbl hg2 hk2 hlt HS hC
    by_cases h0 : r2.size = 0
    · obtain rfl := nil_of h0
      have HTk := Lib.hid (token_end w1.heap.size ln2 c2 w2 hR2.at_)
      have hlex := Lib.hid (lex_end HK2.out)
      clear h0 hR2
      go_wp2_with fail
      refine (HTk.out).mono ?_
      rintro e w3 ⟨rfl, hA3, hg3⟩
      obtain ⟨hown3, hbl3⟩ := kept_all hB1 hlt2 hown2 hbl2 hg3
      have hlt3 := hA3.lt
      have HA3 := Lib.hid hA3
      clear hA3 hg3 hown2 hbl2 HTk
      unfold tokV
      go_wp2_with (at_builtin; refine wpList_append_own _ rfl _ _ 27 rfl (w1.heap.size + 1) 37 i0 (.agg #[.int .i64 0, .string ⟨#[]⟩, .int .u64 0, .int .i64 0, .int .i64 0]) 5 48 Tryd.underlying27 HI.out HZ0.out HZ1.out HZ2.out rfl (by decide) _ _ _ rfl ((hown3.alloc _).alloc _) ⟨w3.heap.size + 1, 0, none⟩ 1 1 (tokC ⟨3, [], 0, ln2, c2⟩) rfl rfl ?c1 (tokC_one _) ?c3 ?c4 ?c5 ?_)
      case c1 => exact tokC_new _ _ ⟨3, [], 0, ln2, c2⟩ (by simp) _
      case c3 => unfold maxLen; omega
      case c4 => omega
      case c5 => simp; omega
      intro v4 w4 hown4 hg4 _
      obtain ⟨hbl4, hrd4, hc4⟩ := grown_all hB1 hlt3 hown3 hbl3 hg4
      have hk4 : w4.cell? ⟨w3.heap.size, 0, none⟩ = some (.int .i64 3) := (hc4 0).trans (by simp [go_sem])
      have HO4 := Lib.hid hown4
      clear hc4 hg4 hrd4 hown4 hown3
      go_wp2
      exact bodyPost_ret (v := .tuple #[v4, .int .i64 0, .int .i64 0, .int .i64 0]) (by simp [results, Tryd.results12, go_sem]) rfl
        (post_end hB1 (by rw [← HK.out, hlex.out]; rfl) rfl HO4.out hbl4)
    · have h0' : 0 < r2.size := by omega
      have hne := pos_ne h0'
      by_cases he : tokE r2.data.toList = 0
      · have HTk := Lib.hid (token_ok w1.heap.size r2 ln2 c2 w2 hR2 hsg.out h0' he)
        have hlex := Lib.hid (lex_tok HK2.out hne he)
        have hfp := tok_pos he
        have hfl := first_le r2.data.toList
        have hsl := Lib.hid (size_len r2)
        have hkb := firstK_bd r2.data.toList
        have HR2 := Lib.hid hR2
        clear h0 hR2 hne he
        go_wp2_with fail
        refine (HTk.out).mono ?_
        rintro e w3 ⟨rfl, hA3, hg3⟩
        obtain ⟨hown3, hbl3⟩ := kept_all hB1 hlt2 hown2 hbl2 hg3
        have hlt3 := hA3.lt
        have HA3 := Lib.hid hA3
        have HF := Lib.hid (HR2.out.take (by rw [hsl.out]; exact hfl) hA3)
        have hTK : (tokT r2.data.toList ln2 c2).kind = firstK r2.data.toList := rfl
        clear hA3 hg3 hown2 hbl2 HTk
        generalize tokT r2.data.toList ln2 c2 = tk at *
        have h3 : (tk.kind == 3) = false := by rw [hTK]; simp; omega
        clear hTK hkb
        unfold tokW tokV
        go_wp2_with (at_builtin; refine wpList_append_own _ rfl _ _ 27 rfl (w1.heap.size + 1) 37 i0 (.agg #[.int .i64 0, .string ⟨#[]⟩, .int .u64 0, .int .i64 0, .int .i64 0]) 5 48 Tryd.underlying27 HI.out HZ0.out HZ1.out HZ2.out rfl (by decide) _ _ _ rfl ((hown3.alloc _).alloc _) ⟨w3.heap.size + 1, 0, none⟩ 1 1 (tokC tk) rfl rfl ?d1 (tokC_one _) ?d3 ?d4 ?d5 ?_)
        case d1 => exact tokC_new _ _ tk (by simp) _
        case d3 => unfold maxLen; omega
        case d4 => omega
        case d5 => simp; omega
        intro v4 w4 hown4 hg4 _
        obtain ⟨hbl4, hrd4, hc4⟩ := grown_all hB1 hlt3 hown3 hbl3 hg4
        have hk4 : w4.cell? ⟨w3.heap.size, 0, none⟩ = some (.int .i64 tk.kind) := (hc4 0).trans (by simp [go_sem])
        have HO4 := Lib.hid hown4
        have HRD := Lib.hid hrd4
        clear hc4 hg4 hrd4 hown4 hown3
        go_wp2
        go_roundw
        case rel =>
          refine ⟨_, _, _, acc ++ [tk], ⟨HRD.out _ _ _ HF.out.at_, HF.out.hs, HF.out.l1, HF.out.c1, HF.out.l2, HF.out.c2⟩, ?_, ?_, ?_, hbl4⟩
          · rw [← HK.out, hlex.out, pre_cons, Lib.extract_to_end]
          · rw [tokCs_snoc, List.length_append]
            exact HO4.out
          · rw [List.length_append, ext_tail_size]
            simp
            omega
        case measure =>
          rw [(HRD.out _ _ _ HF.out.at_).rest, hrest.out, ext_tail_size]
          omega
      · have HTk := Lib.hid (token_no w1.heap.size r2 ln2 c2 w2 hR2 hsg.out h0' he)
        have hlex := Lib.hid (lex_bad HK2.out hne he)
        have hcode := tokE_ne he
        generalize tokE r2.data.toList = code at *
        have hco : (code != 0) = true := by simp; omega
        clear h0 hR2 hne he
        go_wp2_with fail
        refine (HTk.out).mono ?_
        rintro e w3 ⟨k3, t3, m3, rfl, hg3⟩
        obtain ⟨hown3, hbl3⟩ := kept_all hB1 hlt2 hown2 hbl2 hg3
        have hlt3 : w1.heap.size < w3.heap.size := Nat.lt_of_lt_of_le hlt2 hg3.size
        clear hg3 hown2 hbl2 HTk hown3
        unfold tokV
        go_wp2
        go_region
        go_wp2
        exact bodyPost_ret (v := .tuple #[.slice none 0 0, .int .i64 ln2, .int .i64 c2, .int .i64 code]) (by simp [results, Tryd.results12, go_sem]) rfl
          (post_bad (by rw [← HK.out, hlex.out]; rfl) rfl ((hbl3.alloc (by omega) _).drew))
end Go.Proofs.YtilfganjpgkjdaaDoor
