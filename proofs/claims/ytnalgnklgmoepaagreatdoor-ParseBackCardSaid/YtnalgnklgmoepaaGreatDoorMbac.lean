/- The reader's token in the model's words; the model's own recursion. What Lex hands back; the parts of its walk. The contract of Lex. A row of tokens, cell by cell; Lex at the chapter's examples. A region whose order is drawn, in which loads go ahead of calls: one way serves all. The parser's state in memory; its small calls: peek, fail. The parser's small calls: fail, take, node, at, atName. -/
import Derived.OwnWalk
import Derived.Laws.OwnMore
import Derived.OrdersHeld
import Derived.Deep.RegionHeld
import Derived.Test.YtnalgnklgmoepaaGreatDoorMbab
set_option linter.all false
namespace Go.Proofs.YtnalgnklgmoepaaGreatDoor
open Go Go.RowKit

theorem first_nil : firstN [] = 0 := rfl
theorem tok_pos {l : List UInt8} (h : tokE l = 0) : 0 < firstN l := by
  unfold tokE at h
  by_cases h0 : firstN l = 0
  · rw [if_pos h0] at h; exact absurd h (by decide)
  · omega
theorem skipF_le (n : Nat) (l : List UInt8) (ln c : Int) : (skipF n l ln c).1.length ≤ l.length := by
  induction n generalizing l ln c with
  | zero => exact Nat.le_refl _
  | succ n ih =>
    rw [skipF]
    by_cases h : gapL l = 0
    · rw [if_pos h]; exact Nat.le_refl _
    · rw [if_neg h]
      refine Nat.le_trans (ih _ _ _) ?_
      rw [List.length_drop]
      omega
theorem lex_fuel (n m : Nat) (l : List UInt8) (ln c : Int) (hn : l.length < n) (hm : l.length < m) : lexF n l ln c = lexF m l ln c := by
  induction n generalizing m l ln c with
  | zero => omega
  | succ n ih =>
    cases m with
    | zero => omega
    | succ m =>
      rw [lexF, lexF]
      have hk := skipF_le l.length l ln c
      generalize skipF l.length l ln c = s at *
      by_cases h1 : s.1 = []
      · simp only [h1, if_true]
      · by_cases h2 : tokE s.1 = 0
        · have hp := tok_pos h2
          have hle := first_le s.1
          simp only [if_neg h1, if_pos h2]
          rw [ih m _ _ _ (by rw [List.length_drop]; omega) (by rw [List.length_drop]; omega)]
        · simp only [if_neg h1, if_neg h2]
def lexG (l : List UInt8) (ln c : Int) : Res := lexF (l.length + 1) l ln c
theorem lexG_eq (l : List UInt8) (ln c : Int) : lexG l ln c =
    if (skipL l ln c).1 = [] then .ok [⟨3, [], 0, (skipL l ln c).2.1, (skipL l ln c).2.2⟩]
    else if tokE (skipL l ln c).1 = 0 then (lexG ((skipL l ln c).1.drop (firstN (skipL l ln c).1)) (advL ((skipL l ln c).1.take (firstN (skipL l ln c).1)) (skipL l ln c).2.1 (skipL l ln c).2.2).1 (advL ((skipL l ln c).1.take (firstN (skipL l ln c).1)) (skipL l ln c).2.1 (skipL l ln c).2.2).2).cons (tokT (skipL l ln c).1 (skipL l ln c).2.1 (skipL l ln c).2.2)
    else .bad (skipL l ln c).2.1 (skipL l ln c).2.2 (tokE (skipL l ln c).1) := by
  conv => lhs; unfold lexG; rw [lexF]
  have hk := skipF_le l.length l ln c
  unfold skipL lexG
  generalize skipF l.length l ln c = s at *
  by_cases h1 : s.1 = []
  · simp only [h1, if_true]
  · by_cases h2 : tokE s.1 = 0
    · have hp := tok_pos h2
      have hle := first_le s.1
      simp only [if_neg h1, if_pos h2]
      rw [lex_fuel l.length ((s.1.drop (firstN s.1)).length + 1) _ _ _ (by rw [List.length_drop]; omega) (by omega)]
    · simp only [if_neg h1, if_neg h2]
theorem lex_end {l : List UInt8} {ln c ln1 c1 : Int} (hk : ([], ln1, c1) = skipL l ln c) : lexG l ln c = .ok [⟨3, [], 0, ln1, c1⟩] := by
  rw [lexG_eq, ← hk, if_pos rfl]
theorem lex_bad {l l1 : List UInt8} {ln c ln1 c1 : Int} (hk : (l1, ln1, c1) = skipL l ln c) (h0 : ¬ l1 = []) (he : ¬ tokE l1 = 0) : lexG l ln c = .bad ln1 c1 (tokE l1) := by
  rw [lexG_eq, ← hk, if_neg h0, if_neg he]
theorem lex_tok {l l1 : List UInt8} {ln c ln1 c1 : Int} (hk : (l1, ln1, c1) = skipL l ln c) (h0 : ¬ l1 = []) (he : tokE l1 = 0) :
    lexG l ln c = (lexG (l1.drop (firstN l1)) (advL (l1.take (firstN l1)) ln1 c1).1 (advL (l1.take (firstN l1)) ln1 c1).2).cons (tokT l1 ln1 c1) := by
  rw [lexG_eq, ← hk, if_neg h0, if_pos he]

/-- A token of the model as a value. -/
def tokW (t : Tok) : Value := tokV t.kind ⟨t.text.toArray⟩ t.num t.line t.col
theorem ext_take (r : ByteArray) (n : Nat) : r.extract 0 n = ⟨(r.data.toList.take n).toArray⟩ := by
  rw [Lib.extract_eq]; simp
theorem pos_ne {r : ByteArray} (h : 0 < r.size) : ¬ r.data.toList = [] := fun e => by
  have := size_len r
  rw [e] at this
  have h3 : r.size = 0 := this
  omega
theorem token_ok (B : Nat) (r : ByteArray) (ln c : Int) (w : World) (hR : RdIn B r ln c w) (ht : Signs w) (h0 : 0 < r.size) (he : tokE r.data.toList = 0) :
    Calls Tryz.prog 27 #[.pointer (some ⟨B, 0, none⟩)] w fun e w' => e = .returned (.tuple #[tokW (tokT r.data.toList ln c), .int .i64 0]) ∧
      RdAt B (r.extract (firstN r.data.toList) r.size) (advL (r.data.toList.take (firstN r.data.toList)) ln c).1 (advL (r.data.toList.take (firstN r.data.toList)) ln c).2 w' ∧ w.grownBy w' (some B) := by
  have hp := tok_pos he
  have hle := first_le r.data.toList
  unfold tokE at he
  rw [if_neg (by omega)] at he
  unfold tokW tokT
  by_cases hk : firstK r.data.toList = 1
  · rw [if_pos hk] at he ⊢
    cases hok : (numL (r.data.toList.take (firstN r.data.toList))).isSome
    · rw [hok] at he
      exact absurd he (by decide)
    · simp only [← ext_take]
      rw [hk]
      exact token_num B r ln c _ w hR ht h0 hk rfl hp hle _ rfl hok
  · simp only [if_neg hk, ← ext_take]
    exact token_word B r ln c _ _ w hR ht h0 rfl rfl hp hle (by simpa using hk)
/-- Behind a token that is wrong. -/
def BadTok (B : Nat) (ln c code : Int) (w : World) (e : Ending) (w' : World) : Prop :=
  ∃ k t m, e = .returned (.tuple #[tokV k t m ln c, .int .i64 code]) ∧ w.grownBy w' (some B)
theorem token_no (B : Nat) (r : ByteArray) (ln c : Int) (w : World) (hR : RdIn B r ln c w) (ht : Signs w) (h0 : 0 < r.size) (he : ¬ tokE r.data.toList = 0) :
    Calls Tryz.prog 27 #[.pointer (some ⟨B, 0, none⟩)] w (BadTok B ln c (tokE r.data.toList) w) := by
  have hle := first_le r.data.toList
  unfold tokE at he ⊢
  by_cases hn : firstN r.data.toList = 0
  · rw [if_pos hn]
    exact (token_byte B r ln c w hR.at_ ht h0 hR.hs hn).mono fun e w' h => ⟨_, _, _, h.1, h.2.2⟩
  · rw [if_neg hn] at he ⊢
    by_cases hk : firstK r.data.toList = 1
    · rw [if_pos hk] at he ⊢
      cases hok : (numL (r.data.toList.take (firstN r.data.toList))).isSome
      · exact (token_bad B r ln c _ w hR ht h0 hk rfl (by omega) hle _ rfl hok).mono fun e w' h => ⟨_, _, _, h.1, h.2.2⟩
      · rw [hok] at he
        exact absurd rfl he
    · rw [if_neg hk] at he
      exact absurd rfl he
theorem tokE_ne {l : List UInt8} (h : ¬ tokE l = 0) : tokE l = 20 ∨ tokE l = 21 := by
  unfold tokE at *
  (repeat' split) <;> simp_all
end Go.Proofs.YtnalgnklgmoepaaGreatDoor
namespace Go.Proofs.YtnalgnklgmoepaaGreatDoor
open Go Go.RowKit

theorem clone_any (s : ByteArray) (w : World) (hs : s.size ≤ 65536) :
    Calls Tryz.prog 25 #[.string s] w fun e w' => e = .returned (.string s) ∧ Below w.heap.size w w' := by
  have H := Lib.hid (Tryz.stringslite_Clone s w (by omega))
  go_enter Tryz.func25, Tryz.ntmps25
  go_wp2_with (go_at_call 41; refine (H.out).mono ?_; rintro e w' ⟨rfl, hb⟩)
  go_ret
  exact ⟨rfl, hb⟩
def tokC (t : Tok) : List Value := [.int .i64 t.kind, .string ⟨t.text.toArray⟩, .int .u64 t.num, .int .i64 t.line, .int .i64 t.col]
def tokCs (l : List Tok) : List Value := l.flatMap tokC
def LexPost (s : ByteArray) (w : World) (e : Ending) (w' : World) : Prop :=
  match lexG s.data.toList 1 1 with
  | .bad ln c code => e = .returned (.tuple #[.slice none 0 0, .int .i64 ln, .int .i64 c, .int .i64 code]) ∧ Below w.heap.size w w'
  | .ok l => ∃ v, e = .returned (.tuple #[v, .int .i64 0, .int .i64 0, .int .i64 0]) ∧ w'.ownsRow w.heap.size 55 5 v l.length (tokCs l) ∧ Below w.heap.size w w'
def LexRel (s : ByteArray) (w : World) (B : Nat) (v : Value) (wr : World) : Prop :=
  ∃ r ln c acc, RdIn B r ln c wr ∧ Res.pre acc (lexG r.data.toList ln c) = lexG s.data.toList 1 1 ∧ wr.ownsRow (B + 1) 55 5 v acc.length (tokCs acc) ∧ acc.length + r.size ≤ s.size ∧ Below w.heap.size w wr
theorem Tryz.info55 : (Tryz.prog.info? 55).map (fun i => (i.zero, i.size, i.bytes)) = some (some (.agg #[.int .i64 0, .string ⟨#[]⟩, .int .u64 0, .int .i64 0, .int .i64 0]), 5, 48) := by kernel_rfl

theorem cell_five_new (w : World) (a b c d e : Value) (t : TypeId) : ∀ (j : Nat) (u : Value), [a, b, c, d, e][j]? = some u → (w.alloc (.cells #[a, b, c, d, e] t)).cell? ((⟨w.heap.size, 0, none⟩ : Addr).add j) = some u := by
  intro j u hj
  match j, hj with
  | 0, h => cases h; simp [Addr.add, go_sem]
  | 1, h => cases h; simp [Addr.add, go_sem]
  | 2, h => cases h; simp [Addr.add, go_sem]
  | 3, h => cases h; simp [Addr.add, go_sem]
  | 4, h => cases h; simp [Addr.add, go_sem]
theorem tokC_new (w : World) (b : Nat) (t : Tok) (hb : b = w.heap.size) (T : TypeId) :
    ∀ (j : Nat) (u : Value), (tokC t)[j]? = some u → (w.alloc (.cells #[.int .i64 t.kind, .string ⟨t.text.toArray⟩, .int .u64 t.num, .int .i64 t.line, .int .i64 t.col] T)).cell? ((⟨b, 0, none⟩ : Addr).add j) = some u := by
  subst hb
  exact cell_five_new _ _ _ _ _ _ _
theorem tokC_one (t : Tok) : ∀ u ∈ tokC t, u.oneCell' = true := by
  intro u hu
  simp [tokC] at hu
  rcases hu with rfl | rfl | rfl | rfl | rfl <;> rfl
theorem owns_mono {w : World} {b b' : Nat} {e : TypeId} {size : Nat} {v : Value} {n : Nat} {xs : List Value} (h : w.ownsRow b e size v n xs) (hb : b' ≤ b) : w.ownsRow b' e size v n xs := by
  obtain ⟨h1, h2 | ⟨g, cap, cur, h3, h4, h5⟩⟩ := h
  · exact ⟨h1, .inl h2⟩
  · exact ⟨h1, .inr ⟨g, cap, cur, h3, Nat.le_trans hb h4, h5⟩⟩
theorem tokCs_snoc (l : List Tok) (t : Tok) : tokCs (l ++ [t]) = tokCs l ++ tokC t := by simp [tokCs]
theorem pre_cons (acc : List Tok) (t : Tok) (x : Res) : Res.pre acc (x.cons t) = Res.pre (acc ++ [t]) x := by
  cases x <;> simp [Res.pre, Res.cons]
theorem Signs.below {w w' : World} (h : Signs w) (hb : Below w.heap.size w w') : Signs w' := by
  obtain ⟨b, off, cap, h1⟩ := h
  exact ⟨b, off, cap, h1.below hb⟩
/-- What the row, old memory and the tables are behind a call that writes the reader's block alone. -/
theorem kept_all {w wr w2 : World} {B n : Nat} {v : Value} {xs : List Value} (hB : w.heap.size ≤ B) (hlt : B < wr.heap.size) (hown : wr.ownsRow (B + 1) 55 5 v n xs) (hbl : Below w.heap.size w wr) (hg : wr.grownBy w2 (some B)) :
    w2.ownsRow (B + 1) 55 5 v n xs ∧ Below w.heap.size w w2 :=
  ⟨hown.kept hg (.inr (fun e => by have := (hown.lt _ e).1; omega)), hbl.grown hg (by omega) (fun k e => by cases e; exact hB)⟩
/-- What is there behind the append of a token. -/
theorem grown_all {w w3 w4 : World} {B n : Nat} {v : Value} {xs : List Value} {o1 o2 : Obj} (hB : w.heap.size ≤ B) (hlt : B < w3.heap.size) (hown : w3.ownsRow (B + 1) 55 5 v n xs) (hbl : Below w.heap.size w w3)
    (hg : ((w3.alloc o1).alloc o2).grownBy w4 v.ownBlock) :
    Below w.heap.size w w4 ∧ (∀ r ln c, RdAt B r ln c w3 → RdAt B r ln c w4) ∧ (∀ o, w4.cell? ⟨w3.heap.size, o, none⟩ = ((w3.alloc o1).alloc o2).cell? ⟨w3.heap.size, o, none⟩) := by
  have hne : ∀ k, (k = B ∨ k = w3.heap.size) → some k ≠ v.ownBlock := fun k hk e => by
    have := hown.lt k e.symm
    omega
  refine ⟨((hbl.alloc (by omega) o1).alloc (by simp; omega) o2).grown hg (by simp; omega) (fun k e => by have := (hown.lt k e).1; omega), fun r ln c h => ?_, fun o => ?_⟩
  · exact (h.kept (row := none) (grown_alloc (grown_alloc (grown_refl _ _) _) _) (by simp)).kept hg (hne B (.inl rfl))
  · exact World.cell?_of_block (hg.block w3.heap.size (by simp; omega) (hne _ (.inr rfl)))
theorem post_end {s : ByteArray} {w w' : World} {e : Ending} {B : Nat} {acc : List Tok} {t : Tok} {v : Value} (hB : w.heap.size ≤ B) (hx : lexG s.data.toList 1 1 = .ok (acc ++ [t]))
    (he : e = .returned (.tuple #[v, .int .i64 0, .int .i64 0, .int .i64 0])) (hown : w'.ownsRow (B + 1) 55 5 v (acc.length + 1) (tokCs acc ++ tokC t)) (hb : Below w.heap.size w w') : LexPost s w e w' := by
  unfold LexPost
  rw [hx]
  refine ⟨v, he, ?_, hb⟩
  rw [tokCs_snoc, List.length_append]
  exact owns_mono hown (by omega)
theorem post_bad {s : ByteArray} {w w' : World} {e : Ending} {ln c code : Int} (hx : lexG s.data.toList 1 1 = .bad ln c code)
    (he : e = .returned (.tuple #[.slice none 0 0, .int .i64 ln, .int .i64 c, .int .i64 code])) (hb : Below w.heap.size w w') : LexPost s w e w' := by
  unfold LexPost
  rw [hx]
  exact ⟨he, hb⟩
theorem nil_of {r : ByteArray} (h : r.size = 0) : r = ⟨#[]⟩ := bs_eq (List.length_eq_zero_iff.mp h)
end Go.Proofs.YtnalgnklgmoepaaGreatDoor
namespace Go.Proofs.YtnalgnklgmoepaaGreatDoor
open Go Go.RowKit

set_option maxHeartbeats 4000000 in
set_option maxRecDepth 100000 in
theorem lex_any (s : ByteArray) (w : World) (hs : s.size ≤ 65536) (ht : Signs w) : Calls Tryz.prog 16 #[.string s] w (LexPost s w) := by
  have hC := Lib.hid (clone_any s w hs)
  have HT := Lib.hid ht
  clear ht
  obtain ⟨i0, hi, hz0, hz1, hz2⟩ := info_parts Tryz.info55
  have HI := Lib.hid hi
  have HZ0 := Lib.hid hz0
  have HZ1 := Lib.hid hz1
  have HZ2 := Lib.hid hz2
  clear hi hz0 hz1 hz2
  go_enter Tryz.func16, Tryz.ntmps16
  go_wp2_with (go_at_call 25; refine (hC.out).mono ?_; rintro e w1 ⟨rfl, hb⟩)
  have hB1 : w.heap.size ≤ w1.heap.size := hb.size
  go_loopw [7] (fun v wr => LexRel s w w1.heap.size v wr) (fun _ wr => restLen w1.heap.size wr)
  case atStart =>
    refine ⟨s, 1, 1, [], ⟨⟨?_, ?_, ?_, ?_, ?_, ?_⟩, hs, by decide, by decide, by omega, by omega⟩, ?_, World.ownsRow_nil _ _ _ _, by simp, (hb.alloc (by omega) _)⟩
    · simp [go_sem]
    · simp [go_sem]
    · simp [go_sem]
    · simp [go_sem]
    · simp [go_sem]
    · simp [go_sem]
    · cases lexG s.data.toList 1 1 <;> simp [Res.pre]
  case round =>
    obtain ⟨r, ln, c, acc, hR, hk, hown, hcnt, hbl⟩ := hrel
    have hlt := hR.at_.lt
    have hrest := Lib.hid hR.at_.rest
    have HS := Lib.hid (skip_any w1.heap.size r ln c wr hR)
    have HK := Lib.hid hk
    clear hk hR hb
    go_wp2_with fail
    refine (HS.out).mono ?_
    rintro e w2 ⟨rfl, r2, ln2, c2, hR2, hk2, hle2, hg2⟩
    obtain ⟨hown2, hbl2⟩ := kept_all hB1 hlt hown hbl hg2
    have hlt2 : w1.heap.size < w2.heap.size := hR2.at_.lt
    have HK2 := Lib.hid hk2
    have hsg := Lib.hid (HT.out.below hbl2)
    clear hown hbl hg2 hk2 hlt HS hC
    by_cases h0 : r2.size = 0
    · obtain rfl := nil_of h0
      have HTk := Lib.hid (token_end w1.heap.size ln2 c2 w2 hR2.at_)
      have hlex := Lib.hid (lex_end HK2.out)
      clear h0 hR2
      go_wp2_with fail
      refine (HTk.out).mono ?_
      rintro e w3 ⟨rfl, hA3, hg3⟩
      obtain ⟨hown3, hbl3⟩ := kept_all hB1 hlt2 hown2 hbl2 hg3
      have hlt3 := hA3.lt
      have HA3 := Lib.hid hA3
      clear hA3 hg3 hown2 hbl2 HTk
      unfold tokV
      go_wp2_with (at_builtin; refine wpList_append_own _ rfl _ _ 39 rfl (w1.heap.size + 1) 55 i0 (.agg #[.int .i64 0, .string ⟨#[]⟩, .int .u64 0, .int .i64 0, .int .i64 0]) 5 48 Tryz.underlying39 HI.out HZ0.out HZ1.out HZ2.out rfl (by decide) _ _ _ rfl ((hown3.alloc _).alloc _) ⟨w3.heap.size + 1, 0, none⟩ 1 1 (tokC ⟨3, [], 0, ln2, c2⟩) rfl rfl ?c1 (tokC_one _) ?c3 ?c4 ?c5 ?_)
      case c1 => exact tokC_new _ _ ⟨3, [], 0, ln2, c2⟩ (by simp) _
      case c3 => unfold maxLen; omega
      case c4 => omega
      case c5 => simp; omega
      intro v4 w4 hown4 hg4 _
      obtain ⟨hbl4, hrd4, hc4⟩ := grown_all hB1 hlt3 hown3 hbl3 hg4
      have hk4 : w4.cell? ⟨w3.heap.size, 0, none⟩ = some (.int .i64 3) := (hc4 0).trans (by simp [go_sem])
      have HO4 := Lib.hid hown4
      clear hc4 hg4 hrd4 hown4 hown3
      go_wp2
      exact bodyPost_ret (v := .tuple #[v4, .int .i64 0, .int .i64 0, .int .i64 0]) (by simp [results, Tryz.results16, go_sem]) rfl
        (post_end hB1 (by rw [← HK.out, hlex.out]; rfl) rfl HO4.out hbl4)
    · have h0' : 0 < r2.size := by omega
      have hne := pos_ne h0'
      by_cases he : tokE r2.data.toList = 0
      · have HTk := Lib.hid (token_ok w1.heap.size r2 ln2 c2 w2 hR2 hsg.out h0' he)
        have hlex := Lib.hid (lex_tok HK2.out hne he)
        have hfp := tok_pos he
        have hfl := first_le r2.data.toList
        have hsl := Lib.hid (size_len r2)
        have hkb := firstK_bd r2.data.toList
        have HR2 := Lib.hid hR2
        clear h0 hR2 hne he
        go_wp2_with fail
        refine (HTk.out).mono ?_
        rintro e w3 ⟨rfl, hA3, hg3⟩
        obtain ⟨hown3, hbl3⟩ := kept_all hB1 hlt2 hown2 hbl2 hg3
        have hlt3 := hA3.lt
        have HA3 := Lib.hid hA3
        have HF := Lib.hid (HR2.out.take (by rw [hsl.out]; exact hfl) hA3)
        have hTK : (tokT r2.data.toList ln2 c2).kind = firstK r2.data.toList := rfl
        clear hA3 hg3 hown2 hbl2 HTk
        generalize tokT r2.data.toList ln2 c2 = tk at *
        have h3 : (tk.kind == 3) = false := by rw [hTK]; simp; omega
        clear hTK hkb
        unfold tokW tokV
        go_wp2_with (at_builtin; refine wpList_append_own _ rfl _ _ 39 rfl (w1.heap.size + 1) 55 i0 (.agg #[.int .i64 0, .string ⟨#[]⟩, .int .u64 0, .int .i64 0, .int .i64 0]) 5 48 Tryz.underlying39 HI.out HZ0.out HZ1.out HZ2.out rfl (by decide) _ _ _ rfl ((hown3.alloc _).alloc _) ⟨w3.heap.size + 1, 0, none⟩ 1 1 (tokC tk) rfl rfl ?d1 (tokC_one _) ?d3 ?d4 ?d5 ?_)
        case d1 => exact tokC_new _ _ tk (by simp) _
        case d3 => unfold maxLen; omega
        case d4 => omega
        case d5 => simp; omega
        intro v4 w4 hown4 hg4 _
        obtain ⟨hbl4, hrd4, hc4⟩ := grown_all hB1 hlt3 hown3 hbl3 hg4
        have hk4 : w4.cell? ⟨w3.heap.size, 0, none⟩ = some (.int .i64 tk.kind) := (hc4 0).trans (by simp [go_sem])
        have HO4 := Lib.hid hown4
        have HRD := Lib.hid hrd4
        clear hc4 hg4 hrd4 hown4 hown3
        go_wp2
        go_roundw
        case rel =>
          refine ⟨_, _, _, acc ++ [tk], ⟨HRD.out _ _ _ HF.out.at_, HF.out.hs, HF.out.l1, HF.out.c1, HF.out.l2, HF.out.c2⟩, ?_, ?_, ?_, hbl4⟩
          · rw [← HK.out, hlex.out, pre_cons, Lib.extract_to_end]
          · rw [tokCs_snoc, List.length_append]
            exact HO4.out
          · rw [List.length_append, ext_tail_size]
            simp
            omega
        case measure =>
          rw [(HRD.out _ _ _ HF.out.at_).rest, hrest.out, ext_tail_size]
          omega
      · have HTk := Lib.hid (token_no w1.heap.size r2 ln2 c2 w2 hR2 hsg.out h0' he)
        have hlex := Lib.hid (lex_bad HK2.out hne he)
        have hcode := tokE_ne he
        generalize tokE r2.data.toList = code at *
        have hco : (code != 0) = true := by simp; omega
        clear h0 hR2 hne he
        go_wp2_with fail
        refine (HTk.out).mono ?_
        rintro e w3 ⟨k3, t3, m3, rfl, hg3⟩
        obtain ⟨hown3, hbl3⟩ := kept_all hB1 hlt2 hown2 hbl2 hg3
        have hlt3 : w1.heap.size < w3.heap.size := Nat.lt_of_lt_of_le hlt2 hg3.size
        clear hg3 hown2 hbl2 HTk hown3
        unfold tokV
        go_wp2
        go_region
        go_wp2
        exact bodyPost_ret (v := .tuple #[.slice none 0 0, .int .i64 ln2, .int .i64 c2, .int .i64 code]) (by simp [results, Tryz.results16, go_sem]) rfl
          (post_bad (by rw [← HK.out, hlex.out]; rfl) rfl ((hbl3.alloc (by omega) _).drew))
end Go.Proofs.YtnalgnklgmoepaaGreatDoor
namespace Go.Proofs.YtnalgnklgmoepaaGreatDoor
open Go Go.RowKit

theorem tokCs_at (l : List Tok) (i k : Nat) (hk : k < 5) (hi : i < l.length) : (tokCs l)[i * 5 + k]? = (tokC l[i])[k]? := by
  induction l generalizing i with
  | nil => simp at hi
  | cons t r ih =>
    have hc : tokCs (t :: r) = tokC t ++ tokCs r := rfl
    have hlen : (tokC t).length = 5 := rfl
    rw [hc]
    cases i with
    | zero =>
      rw [List.getElem?_append_left (by omega)]
      simp
    | succ i =>
      rw [List.getElem?_append_right (by omega), hlen]
      have := ih i (by simpa using hi)
      have e : (i + 1) * 5 + k - 5 = i * 5 + k := by omega
      rw [e, this]
      simp
/-- Where a row's token lies. -/
structure TokAt (g i : Nat) (t : Tok) (w : World) : Prop where
  fk : w.cell? ⟨g, i * 5, none⟩ = some (.int .i64 t.kind)
  ft : w.cell? ⟨g, i * 5 + 1, none⟩ = some (.string ⟨t.text.toArray⟩)
  fm : w.cell? ⟨g, i * 5 + 2, none⟩ = some (.int .u64 t.num)
  fl : w.cell? ⟨g, i * 5 + 3, none⟩ = some (.int .i64 t.line)
  fc : w.cell? ⟨g, i * 5 + 4, none⟩ = some (.int .i64 t.col)
def RowAt (g : Nat) (l : List Tok) (w : World) : Prop := ∀ i (h : i < l.length), TokAt g i l[i] w
theorem row_parts {w : World} {N : Nat} {v : Value} {l : List Tok} (h : w.ownsRow N 55 5 v l.length (tokCs l)) (hl : 0 < l.length) :
    ∃ g cap, v = .slice (some ⟨g, 0, none⟩) l.length cap ∧ N ≤ g ∧ g < w.heap.size ∧ l.length ≤ cap ∧ RowAt g l w := by
  have h' := h
  rcases h.2 with ⟨_, h0⟩ | ⟨g, cap, cur, rfl, hg, hb, hnc, _⟩
  · omega
  · have hlt : g < w.heap.size := by
      by_cases hh : g < w.heap.size
      · exact hh
      · rw [Array.getElem?_eq_none (by omega)] at hb
        cases hb
    refine ⟨g, cap, rfl, hg, hlt, hnc, fun i hi => ?_⟩
    have hj : ∀ k, k < 5 → w.cell? ⟨g, i * 5 + k, none⟩ = (tokC l[i])[k]? := fun k hk => by
      rw [h'.cellAt (i * 5 + k) (by omega)]
      exact tokCs_at l i k hk hi
    exact ⟨hj 0 (by omega), hj 1 (by omega), hj 2 (by omega), hj 3 (by omega), hj 4 (by omega)⟩
theorem TokAt.below {g i : Nat} {t : Tok} {w w' : World} {N : Nat} (h : TokAt g i t w) (hb : Below N w w') (hg : g < N) : TokAt g i t w' :=
  ⟨(hb.cell hg).trans h.fk, (hb.cell hg).trans h.ft, (hb.cell hg).trans h.fm, (hb.cell hg).trans h.fl, (hb.cell hg).trans h.fc⟩
theorem RowAt.below {g : Nat} {l : List Tok} {w w' : World} {N : Nat} (h : RowAt g l w) (hb : Below N w w') (hg : g < N) : RowAt g l w' := fun i hi => (h i hi).below hb hg

def ex1 : ByteArray := ⟨#[120, 32, 61, 32, 48, 120, 49, 70, 59, 32, 47, 47, 32, 121]⟩
def ex2 : ByteArray := ⟨#[97, 32, 36]⟩
def ex3 : ByteArray := ⟨#[49, 50, 122]⟩
def exL : List Tok := [⟨0, [120], 0, 1, 1⟩, ⟨2, [61], 0, 1, 3⟩, ⟨1, [48, 120, 49, 70], 31, 1, 5⟩, ⟨2, [59], 0, 1, 9⟩, ⟨3, [], 0, 1, 15⟩]
theorem lex_ex1 : lexG ex1.data.toList 1 1 = .ok exL := by kernel_rfl
theorem lex_ex2 : lexG ex2.data.toList 1 1 = .bad 1 3 20 := by kernel_rfl
theorem lex_ex3 : lexG ex3.data.toList 1 1 = .bad 1 1 21 := by kernel_rfl
def LexOk (l : List Tok) (w : World) (e : Ending) (w' : World) : Prop :=
  ∃ v, e = .returned (.tuple #[v, .int .i64 0, .int .i64 0, .int .i64 0]) ∧ w'.ownsRow w.heap.size 55 5 v l.length (tokCs l) ∧ Below w.heap.size w w'
theorem lex_ok {s : ByteArray} {l : List Tok} (w : World) (hs : s.size ≤ 65536) (ht : Signs w) (h : lexG s.data.toList 1 1 = .ok l) : Calls Tryz.prog 16 #[.string s] w (LexOk l w) :=
  (lex_any s w hs ht).mono fun e w' hp => by unfold LexPost at hp; rw [h] at hp; exact hp
theorem lex_no {s : ByteArray} {ln c code : Int} (w : World) (hs : s.size ≤ 65536) (ht : Signs w) (h : lexG s.data.toList 1 1 = .bad ln c code) :
    Calls Tryz.prog 16 #[.string s] w fun e w' => e = .returned (.tuple #[.slice none 0 0, .int .i64 ln, .int .i64 c, .int .i64 code]) ∧ Below w.heap.size w w' :=
  (lex_any s w hs ht).mono fun e w' hp => by unfold LexPost at hp; rw [h] at hp; exact hp

end Go.Proofs.YtnalgnklgmoepaaGreatDoor
namespace Go.Proofs.YtnalgnklgmoepaaGreatDoor
open Go

section
variable {P : Program} {ops : Array Oper} {Q : Exit → Act → World → Prop} {md : Region.Mode} {S : World → Prop} {tail : Nat → Bool}

/-- Whatever order is picked from here on; S holds behind each operation that is carried out, but those of the tail. -/
def wpAnyT (P : Program) (md : Region.Mode) (ops : Array Oper) (Q : Exit → Act → World → Prop) (S : World → Prop) (tail : Nat → Bool) : Nat → Array Bool → Act → World → Prop
  | 0, listed, a, w => Region.ready md ops listed = [] ∧ Q .normal a w
  | fuel + 1, listed, a, w =>
    (Region.ready md ops listed = [] → Q .normal a w) ∧
    ∀ i ∈ Region.ready md ops listed, wpOp P ops Q i (fun a' w' => (tail i = false → S w') ∧ wpAnyT P md ops Q S tail fuel (listed.setIfInBounds i true) a' w') a w
theorem wpAny_of_T : ∀ (fuel : Nat) (listed : Array Bool) (a : Act) (w : World), wpAnyT P md ops Q S tail fuel listed a w → wpAny P md ops Q fuel listed a w
  | 0, _, _, _, h => h
  | fuel + 1, _, _, _, h => ⟨h.1, fun i hi => wpOp_mono (fun a' w' h' => wpAny_of_T fuel _ a' w' h'.2) (h.2 i hi)⟩
theorem wp_region_T {id : Nat} {a : Act} {w : World} (hm : P.follows .mixedOrders = true)
    (h : wpAnyT P .any ops Q S tail ops.size (Array.replicate ops.size false) a { w with drawn := w.drawn + 1 }) : (Code.region id ops true).wp P Q a w :=
  wp_region_any hm (wpAny_of_T _ _ _ _ h)
/-- Number j waits for number i. -/
def behind (md : Region.Mode) (ops : Array Oper) (i : Nat) : Nat → Nat → Bool
  | 0, _ => false
  | n + 1, j => ((ops[j]?).map fun o => o.after.any fun e => Region.binds md e && (e.on == i || behind md ops i n e.on)).getD false
/-- All of the tail waits for number i. -/
def tailBehind (md : Region.Mode) (ops : Array Oper) (tail : Nat → Bool) (i : Nat) : Bool := (List.range ops.size).all fun j => !tail j || behind md ops i ops.size j
/-- What has come up has come up behind all that it waits for. -/
def shutAll (md : Region.Mode) (ops : Array Oper) (listed : Array Bool) : Bool :=
  (List.range ops.size).all fun j => !listed.getD j false || ((ops[j]?).map fun o => o.after.all fun e => !Region.binds md e || listed.getD e.on false).getD false
theorem shut_at {listed : Array Bool} (h : shutAll md ops listed = true) {j : Nat} {o : Oper} (ho : ops[j]? = some o) (hl : listed.getD j false = true) : ∀ e ∈ o.after, Region.binds md e = true → listed.getD e.on false = true := by
  intro e he hb
  unfold shutAll at h
  rw [List.all_eq_true] at h
  have := h j (by simpa using (Array.getElem?_eq_some_iff.1 ho).1)
  rw [hl, ho] at this
  simp only [Bool.not_true, Bool.false_or, Option.map_some, Option.getD_some, Array.all_eq_true'] at this
  have := this e he
  rw [hb] at this
  simpa using this
theorem behind_listed {i : Nat} {listed : Array Bool} (h : shutAll md ops listed = true) : ∀ (n j : Nat) (o : Oper), ops[j]? = some o → (∀ e ∈ o.after, Region.binds md e = true → listed.getD e.on false = true) → behind md ops i n j = true → listed.getD i false = true := by
  intro n
  induction n with
  | zero => intro j o _ _ hb; simp [behind] at hb
  | succ n ih =>
    intro j o ho hall hb
    rw [behind, ho] at hb
    simp only [Option.map_some, Option.getD_some, Array.any_eq_true'] at hb
    obtain ⟨e, he, h2⟩ := hb
    simp only [Bool.and_eq_true, Bool.or_eq_true, beq_iff_eq] at h2
    have h3 := hall e he h2.1
    rcases h2.2 with h4 | h4
    · rw [← h4]; exact h3
    · cases ho2 : ops[e.on]? with
      | none =>
        cases n with
        | zero => simp [behind] at h4
        | succ n => simp [behind, ho2] at h4
      | some o2 => exact ih e.on o2 ho2 (shut_at h ho2 h3) h4
theorem tail_not_ready {i j : Nat} {listed : Array Bool} (hb : tailBehind md ops tail i = true) (ho : shutAll md ops listed = true) (hi : listed.getD i true = false) (hj : j ∈ Region.ready md ops listed) : tail j = false := by
  obtain ⟨hjun, oj, hoj, hall⟩ := mem_ready.1 hj
  have hjs : j < ops.size := (Array.getElem?_eq_some_iff.1 hoj).1
  cases ht : tail j with
  | false => rfl
  | true =>
    exfalso
    unfold tailBehind at hb
    rw [List.all_eq_true] at hb
    have h1 := hb j (by simpa using hjs)
    rw [ht] at h1
    have h2 := behind_listed ho ops.size j oj hoj hall (by simpa using h1)
    rcases Nat.lt_or_ge i listed.size with h' | h'
    · simp [h'] at h2 hi
      rw [h2] at hi
      cases hi
    · simp [Array.getElem?_eq_none h'] at h2
theorem shut_set {j : Nat} {listed : Array Bool} (ho : shutAll md ops listed = true) (hj : j ∈ Region.ready md ops listed) : shutAll md ops (listed.setIfInBounds j true) = true := by
  obtain ⟨hjun, oj, hoj, hall⟩ := mem_ready.1 hj
  unfold shutAll
  rw [List.all_eq_true]
  intro k hk
  have hks : k < ops.size := by simpa using hk
  obtain ⟨ok, hok⟩ : ∃ ok, ops[k]? = some ok := ⟨ops[k], Array.getElem?_eq_getElem hks⟩
  by_cases hl : (listed.setIfInBounds j true).getD k false = true
  · rw [hl, hok]
    simp only [Bool.not_true, Bool.false_or, Option.map_some, Option.getD_some, Array.all_eq_true']
    intro e he
    by_cases hb : Region.binds md e = true
    · rw [hb]
      simp only [Bool.not_true, Bool.false_or]
      refine getD_set_true ?_
      by_cases hjk : j = k
      · subst hjk
        rw [hoj] at hok
        cases hok
        exact hall e he hb
      · rw [getD_set_ne false hjk] at hl
        exact shut_at ho hok hl e he hb
    · simp [hb]
  · simp [hl]
/-- An operation that may come up, and yields its value in every world that meets S, may be taken first. -/
theorem wpAnyT_first {i : Nat} {oi : Oper} {v : Value} (hi : ops[i]? = some oi) (hsel : ∀ (j : Nat) (o : Oper) cs b, ops[j]? = some o → o.op ≠ .select cs b)
    (hQ : ∀ c a w, Q (.panic c) (a.put oi.dst v) w → Q (.panic c) a w) (htb : tailBehind md ops tail i = true) (hti : tail i = false) :
    ∀ (fuel : Nat) (listed : Array Bool) (a : Act) (w : World),
      (∀ j oj, ops[j]? = some oj → j ≠ i → listed.getD j true = false → (∀ e ∈ oj.after, Region.binds md e = true → e.on ≠ i) → oi.apart ops oj = true) →
      shutAll md ops listed = true → i ∈ Region.ready md ops listed → YieldsIf P ops S oi v a → S w →
      wpAnyT P md ops Q S tail fuel (listed.setIfInBounds i true) (a.put oi.dst v) w → wpAnyT P md ops Q S tail (fuel + 1) listed a w := by
  intro fuel
  induction fuel with
  | zero =>
    intro listed a w _ _ hr hy hS H
    refine ⟨fun h => (by rw [h] at hr; cases hr), fun j hj => ?_⟩
    by_cases hji : j = i
    · subst hji; exact hy.wpOp hi hS ⟨fun _ => hS, H⟩
    · have := ready_mono hj hji
      rw [H.1] at this
      cases this
  | succ fuel ih =>
    intro listed a w hfree hop hr hy hS H
    refine ⟨fun h => (by rw [h] at hr; cases hr), fun j hj => ?_⟩
    by_cases hji : j = i
    · subst hji; exact hy.wpOp hi hS ⟨fun _ => hS, H⟩
    · have htj := tail_not_ready htb hop (mem_ready.1 hr).1 hj
      have h1 := H.2 j (ready_mono hj hji)
      obtain ⟨hjun, oj, hoj, hall⟩ := mem_ready.1 hj
      have hnot : ∀ e ∈ oj.after, Region.binds md e = true → e.on ≠ i := fun e he hb heq => by
        have h1 := hall e he hb
        have h0 := (mem_ready.1 hr).1
        rw [heq] at h1
        rcases Nat.lt_or_ge i listed.size with h' | h'
        · simp [h'] at h0 h1; rw [h0] at h1; cases h1
        · simp [Array.getElem?_eq_none h'] at h1
      have h2 := wpOp_putIf hoj (hfree j oj hoj hji hjun hnot) (fun cs b => hsel i oi cs b hi) (fun cs b => hsel j oj cs b hoj) hQ hy h1
      have hfree' : ∀ k ok, ops[k]? = some ok → k ≠ i → (listed.setIfInBounds j true).getD k true = false →
          (∀ e ∈ ok.after, Region.binds md e = true → e.on ≠ i) → oi.apart ops ok = true := fun k ok hk hki hun hno => by
        refine hfree k ok hk hki ?_ hno
        by_cases hjk : j = k
        · subst hjk; exact hjun
        · rw [getD_set_ne true hjk] at hun; exact hun
      refine wpOp_mono (fun a' w' h3 => ⟨h3.2.1, ih (listed.setIfInBounds j true) a' w' hfree' (shut_set hop hj) (ready_mono hr (Ne.symm hji)) h3.1 (h3.2.1 htj) ?_⟩) h2
      rw [Array.setIfInBounds_comm _ _ hji]
      exact h3.2.2
theorem wpAnyT_take {i d : Nat} {oi : Oper} {v : Value} {fuel : Nat} {listed : Array Bool} {a : Act} {w : World} (hi : ops[i]? = some oi) (hd : oi.dst = some d)
    (hs : (Region.noSelect ops && Region.free md ops listed i && (Region.ready md ops listed).contains i && tailBehind md ops tail i && shutAll md ops listed && !tail i) = true)
    (hQ : ∀ c a w, Q (.panic c) (a.put oi.dst v) w → Q (.panic c) a w) (hw : Region.wanted oi (yielded ops a.tmps) = true) (hy : ∀ w, S w → (execOp a.eval oi).run P w = .ok (.value v) w) (hS : S w)
    (h : wpAnyT P md ops Q S tail fuel (listed.setIfInBounds i true) (a.put (some d) v) w) : wpAnyT P md ops Q S tail (fuel + 1) listed a w := by
  simp only [Bool.and_eq_true, Bool.not_eq_true'] at hs
  exact wpAnyT_first hi (Region.noSelect_spec hs.1.1.1.1.1) hQ hs.1.1.2 hs.2 fuel listed a w (Region.free_spec hi hs.1.1.1.1.2) hs.1.2 (by simpa using hs.1.1.1.2) (.inl ⟨hw, hy⟩) hS (by rw [hd]; exact h)
/-- The one operation that may come up. -/
theorem wpAnyT_one {i : Nat} {o : Oper} {fuel : Nat} {listed : Array Bool} {a : Act} {w : World} (hi : ops[i]? = some o) (hr : Region.ready md ops listed = [i]) (hw : Region.wanted o (yielded ops a.tmps) = true)
    (h : ∀ K : Act → World → Prop, Shut (∀ a' w', (tail i = false → S w') → wpAnyT P md ops Q S tail fuel (listed.setIfInBounds i true) a' w' → K a' w') → o.wp P a w K Q) : wpAnyT P md ops Q S tail (fuel + 1) listed a w := by
  refine ⟨fun h0 => (by rw [hr] at h0; cases h0), fun j hj => ?_⟩
  rw [hr] at hj
  obtain rfl : j = i := by simpa using hj
  unfold wpOp
  simp only [hi, hw, if_true]
  exact .inl (h _ (fun a' w' h1 h2 => ⟨h1, h2⟩))
theorem wpAnyT_done {listed : Array Bool} {a : Act} {w : World} (hr : Region.ready md ops listed = []) (h : Q .normal a w) :
    ∀ fuel, wpAnyT P md ops Q S tail fuel listed a w
  | 0 => ⟨hr, h⟩
  | _ + 1 => ⟨fun _ => h, by rw [hr]; simp⟩
end
end Go.Proofs.YtnalgnklgmoepaaGreatDoor
namespace Go.Proofs.YtnalgnklgmoepaaGreatDoor
open Go Go.RowKit

def typesL : List (List UInt8) := [[98, 111, 111, 108], [117, 56], [117, 49, 54], [117, 51, 50], [117, 54, 52], [105, 56], [105, 49, 54], [105, 51, 50], [105, 54, 52]]
/-- The tables that the parser reads lie below lo. -/
def Tabs (lo : Nat) (w : World) : Prop := 3 < lo ∧ lo ≤ w.heap.size ∧ (∃ b off cap, StrTab 3 19 keysL b off cap w ∧ b < lo) ∧ ∃ b off cap, StrTab 2 9 typesL b off cap w ∧ b < lo
theorem StrTab.under {g n b off cap lo : Nat} {L : List (List UInt8)} {w w' : World} (h : StrTab g n L b off cap w) (hb : Below lo w w') (hg : g < lo) (hb2 : b < lo) : StrTab g n L b off cap w' :=
  ⟨(hb.cell hg).trans h.tg, fun i hi => (hb.cell hb2).trans (h.tn i hi)⟩
theorem Tabs.under {lo : Nat} {w w' : World} (h : Tabs lo w) (hb : Below lo w w') : Tabs lo w' := by
  obtain ⟨h0, h1, ⟨b, off, cap, h2, h3⟩, ⟨b', off', cap', h4, h5⟩⟩ := h
  exact ⟨h0, Nat.le_trans h1 hb.size, ⟨b, off, cap, h2.under hb (by omega) h3, h3⟩, ⟨b', off', cap', h4.under hb (by omega) h5, h5⟩⟩
theorem Tabs.keys {lo : Nat} {w : World} (h : Tabs lo w) : Keys w := by
  obtain ⟨h0, h1, ⟨b, off, cap, h2, h3⟩, _⟩ := h
  exact ⟨b, off, cap, h2⟩
def Types (w : World) : Prop := ∃ b off cap, StrTab 2 9 typesL b off cap w
theorem Tabs.types {lo : Nat} {w : World} (h : Tabs lo w) : Types w := by
  obtain ⟨h0, h1, _, ⟨b, off, cap, h2, h3⟩⟩ := h
  exact ⟨b, off, cap, h2⟩

/-- Tokens as Lex tells them: the end last, and it alone has no text. -/
def EndsOk : List Tok → Prop
  | [] => False
  | [e] => e.kind = 3 ∧ e.text = []
  | t :: r => t.text ≠ [] ∧ EndsOk r
theorem EndsOk.ne {l : List Tok} (h : EndsOk l) : ∃ t r, l = t :: r := by
  cases l with
  | nil => exact h.elim
  | cons t r => exact ⟨t, r, rfl⟩
theorem EndsOk.tail {t : Tok} {r : List Tok} (h : EndsOk (t :: r)) (ht : t.text ≠ []) : EndsOk r := by
  cases r with
  | nil => exact absurd h.2 ht
  | cons u r => exact h.2

theorem TokAt.grown {g i : Nat} {t : Tok} {w w' : World} {r : Option Nat} (h : TokAt g i t w) (hg : w.grownBy w' r) (hne : some g ≠ r) : TokAt g i t w' :=
  ⟨hg.cell h.fk hne, hg.cell h.ft hne, hg.cell h.fm hne, hg.cell h.fl hne, hg.cell h.fc hne⟩
/-- The parser lies at block B: what is left of the tokens, and how deep it stands. -/
structure PsIn (lo B T o c : Nat) (l : List Tok) (d : Int) (w : World) : Prop where
  c0 : w.cell? ⟨B, 0, none⟩ = some (.slice (some ⟨T, o * 5, none⟩) l.length c)
  c1 : w.cell? ⟨B, 1, none⟩ = some (.int .i64 d)
  f0 : w.frozen? ⟨B, 0, none⟩ = false
  f1 : w.frozen? ⟨B, 1, none⟩ = false
  row : ∀ k (h : k < l.length), TokAt T (o + k) l[k] w
  ends : EndsOk l
  hT : T < B
  hc : l.length ≤ c
  hm : c ≤ maxLen
  hl : l.length ≤ 70000
  ht : ∀ t ∈ l, t.text.length ≤ 65536
  hd : 0 ≤ d ∧ d ≤ 60
  tab : Tabs lo w
  hlo : lo ≤ B
def PsAt (B : Nat) (l : List Tok) (d : Int) (w : World) : Prop := ∃ lo T o c, PsIn lo B T o c l d w
theorem PsIn.lt {lo B T o c : Nat} {l : List Tok} {d : Int} {w : World} (h : PsIn lo B T o c l d w) : B < w.heap.size := cell_lt h.c0
theorem PsAt.lt {B : Nat} {l : List Tok} {d : Int} {w : World} (h : PsAt B l d w) : B < w.heap.size := by
  obtain ⟨lo, T, o, c, h⟩ := h
  exact h.lt
/-- What writes a block behind the parser's, or nothing, leaves the parser as it is. -/
theorem PsIn.grown {lo B T o c : Nat} {l : List Tok} {d : Int} {w w' : World} {r : Option Nat} (h : PsIn lo B T o c l d w) (hg : w.grownBy w' r) (hr : ∀ k, r = some k → B < k) : PsIn lo B T o c l d w' := by
  have hlt := h.lt
  have hT := h.hT
  have hlo := h.hlo
  have hne : ∀ k, k ≤ B → some k ≠ r := fun k hk e => by have := hr k e.symm; omega
  have hb := hg.block B hlt (hne B (Nat.le_refl _))
  refine ⟨(World.cell?_of_block hb).trans h.c0, (World.cell?_of_block hb).trans h.c1, (World.frozen?_of_block hb).trans h.f0, (World.frozen?_of_block hb).trans h.f1,
    fun k hk => (h.row k hk).grown hg (hne T (by omega)), h.ends, hT, h.hc, h.hm, h.hl, h.ht, h.hd, h.tab.under ?_, hlo⟩
  exact (Below.refl _ _).grown hg (by omega) (fun k e => by have := hr k e; omega)
theorem PsAt.grown {B : Nat} {l : List Tok} {d : Int} {w w' : World} {r : Option Nat} (h : PsAt B l d w) (hg : w.grownBy w' r) (hr : ∀ k, r = some k → B < k) : PsAt B l d w' := by
  obtain ⟨lo, T, o, c, h⟩ := h
  exact ⟨lo, T, o, c, h.grown hg hr⟩
theorem below_grown {w w' : World} (h : Below w.heap.size w w') (r : Option Nat) : w.grownBy w' r := ⟨h.os, h.tape, h.output, h.size, fun k hk _ => h.block k hk⟩
theorem grown_none {w w' : World} (h : w.grownBy w' none) : Below w.heap.size w w' := (Below.refl _ _).grown h (Nat.le_refl _) (fun _ e => by cases e)
theorem PsAt.below {B : Nat} {l : List Tok} {d : Int} {w w' : World} (h : PsAt B l d w) (hb : Below w.heap.size w w') : PsAt B l d w' := h.grown (below_grown hb none) (fun _ e => by cases e)

/-- A variable that holds a token. -/
structure LTok (b : Nat) (t : Tok) (w : World) : Prop where
  c0 : w.cell? ⟨b, 0, none⟩ = some (.int .i64 t.kind)
  c1 : w.cell? ⟨b, 1, none⟩ = some (.string ⟨t.text.toArray⟩)
  c2 : w.cell? ⟨b, 2, none⟩ = some (.int .u64 t.num)
  c3 : w.cell? ⟨b, 3, none⟩ = some (.int .i64 t.line)
  c4 : w.cell? ⟨b, 4, none⟩ = some (.int .i64 t.col)
  f : ∀ k, k < 5 → w.frozen? ⟨b, k, none⟩ = false
theorem LTok.lt {b : Nat} {t : Tok} {w : World} (h : LTok b t w) : b < w.heap.size := cell_lt h.c0
theorem LTok.grown {b : Nat} {t : Tok} {w w' : World} {r : Option Nat} (h : LTok b t w) (hg : w.grownBy w' r) (hne : some b ≠ r) : LTok b t w' :=
  ⟨hg.cell h.c0 hne, hg.cell h.c1 hne, hg.cell h.c2 hne, hg.cell h.c3 hne, hg.cell h.c4 hne, fun k hk => (World.frozen?_of_block (hg.block b h.lt hne)).trans (h.f k hk)⟩
theorem LTok.below {b : Nat} {t : Tok} {w w' : World} (h : LTok b t w) (hb : Below w.heap.size w w') : LTok b t w' := h.grown (below_grown hb none) (by simp)
theorem LTok.new (t : Tok) (w : World) : LTok w.heap.size t (w.alloc (.cells #[.int .i64 t.kind, .string ⟨t.text.toArray⟩, .int .u64 t.num, .int .i64 t.line, .int .i64 t.col] 55)) := by
  constructor
  case f => intro k hk; simp [go_sem]
  all_goals simp [go_sem]
/-- A variable that holds a node. -/
structure LNode (b : Nat) (k x : List UInt8) (n ln c : Int) (v : Value) (w : World) : Prop where
  c0 : w.cell? ⟨b, 0, none⟩ = some (.string ⟨k.toArray⟩)
  c1 : w.cell? ⟨b, 1, none⟩ = some (.string ⟨x.toArray⟩)
  c2 : w.cell? ⟨b, 2, none⟩ = some (.int .u64 n)
  c3 : w.cell? ⟨b, 3, none⟩ = some (.int .i64 ln)
  c4 : w.cell? ⟨b, 4, none⟩ = some (.int .i64 c)
  c5 : w.cell? ⟨b, 5, none⟩ = some v
  f : ∀ k, k < 6 → w.frozen? ⟨b, k, none⟩ = false
theorem LNode.lt {b : Nat} {k x : List UInt8} {n ln c : Int} {v : Value} {w : World} (h : LNode b k x n ln c v w) : b < w.heap.size := cell_lt h.c0
theorem LNode.grown {b : Nat} {k x : List UInt8} {n ln c : Int} {v : Value} {w w' : World} {r : Option Nat} (h : LNode b k x n ln c v w) (hg : w.grownBy w' r) (hne : some b ≠ r) : LNode b k x n ln c v w' :=
  ⟨hg.cell h.c0 hne, hg.cell h.c1 hne, hg.cell h.c2 hne, hg.cell h.c3 hne, hg.cell h.c4 hne, hg.cell h.c5 hne, fun k hk => (World.frozen?_of_block (hg.block b h.lt hne)).trans (h.f k hk)⟩
theorem LNode.below {b : Nat} {k x : List UInt8} {n ln c : Int} {v : Value} {w w' : World} (h : LNode b k x n ln c v w) (hb : Below w.heap.size w w') : LNode b k x n ln c v w' := h.grown (below_grown hb none) (by simp)
theorem LNode.new (k x : List UInt8) (n ln c : Int) (v : Value) (w : World) :
    LNode w.heap.size k x n ln c v (w.alloc (.cells #[.string ⟨k.toArray⟩, .string ⟨x.toArray⟩, .int .u64 n, .int .i64 ln, .int .i64 c, v] 26)) := by
  constructor
  case f => intro k hk; simp [go_sem]
  all_goals simp [go_sem]
theorem LNode.set5 {b : Nat} {k x : List UInt8} {n ln c : Int} {v : Value} {w : World} (h : LNode b k x n ln c v w) (u : Value) : LNode b k x n ln c u (w.setCell ⟨b, 5, none⟩ u) := by
  have h0 := h.c0; have h1 := h.c1; have h2 := h.c2; have h3 := h.c3; have h4 := h.c4; have h5 := h.c5; have hf := h.f
  constructor
  case f => intro k hk; have := hf k hk; simp [go_sem, *]
  all_goals simp [go_sem, *]

def tok0 : Tok := ⟨0, [], 0, 0, 0⟩
theorem grown_setB (w : World) (B o : Nat) (v : Value) : w.grownBy (w.setCell ⟨B, o, none⟩ v) (some B) := grown_set (grown_refl _ _) v
theorem PsIn.step {lo B T o c : Nat} {t : Tok} {r : List Tok} {d : Int} {w : World} (h : PsIn lo B T o c (t :: r) d w) (ht : t.text ≠ []) :
    PsIn lo B T (o + 1) (c - 1) r d (w.setCell ⟨B, 0, none⟩ (.slice (some ⟨T, o * 5 + 5, none⟩) r.length (c - 1))) := by
  have h0 := h.c0; have h1 := h.c1; have g0 := h.f0; have g1 := h.f1
  have hg := grown_setB w B 0 (.slice (some ⟨T, o * 5 + 5, none⟩) r.length (c - 1))
  have hT := h.hT
  have hlo := h.hlo
  have hcc := h.hc
  have hm := h.hm
  have hl := h.hl
  simp only [List.length_cons] at hcc hl
  refine ⟨by rw [Nat.succ_mul]; simp [go_sem, *], by simp [go_sem, *], by simp [go_sem, *], by simp [go_sem, *], fun k hk => ?_, h.ends.tail ht, hT, by omega, by omega, by omega, fun u hu => h.ht u (by simp [hu]), h.hd, h.tab.under ?_, hlo⟩
  · have := h.row (k + 1) (by simpa using hk)
    have e : o + (k + 1) = o + 1 + k := by omega
    rw [e] at this
    exact (this.grown hg (by simp; omega))
  · exact (Below.refl _ _).grown hg (by have := h.lt; omega) (fun k e => by cases e; exact hlo)

/-- A store into a block that is newer than w. -/
theorem grown_new {w w2 : World} {r : Option Nat} (h : w.grownBy w2 r) {k : Nat} (hk : w.heap.size ≤ k) (o : Nat) (v : Value) : w.grownBy (w2.setCell ⟨k, o, none⟩ v) r := by
  have hb := (Below.refl 0 w2).setCell (p := ⟨k, o, none⟩) (Nat.zero_le _) v
  refine ⟨hb.os.trans h.os, hb.tape.trans h.tape, hb.output.trans h.output, Nat.le_trans h.size hb.size, fun j hj hr => ?_⟩
  rw [Below.heap_setCell w2 _ v j (fun e => by simp at e; omega)]
  exact h.block j hj hr
theorem PsAt.set {B : Nat} {l : List Tok} {d : Int} {w : World} (h : PsAt B l d w) {k : Nat} (hk : B < k) (o : Nat) (v : Value) : PsAt B l d (w.setCell ⟨k, o, none⟩ v) :=
  h.grown (grown_setB w k o v) (fun j e => by cases e; exact hk)

def faultV (ln c code : Int) : Value := .iface 69 (.agg #[.int .i64 ln, .int .i64 c, .int .i64 code])

set_option maxHeartbeats 1000000 in
theorem peek_any (B : Nat) (t : Tok) (r : List Tok) (d : Int) (w : World) (h : PsAt B (t :: r) d w) :
    Calls Tryz.prog 74 #[.pointer (some ⟨B, 0, none⟩)] w fun e w' => e = .returned (tokW t) ∧ Below w.heap.size w w' := by
  obtain ⟨lo, T, o, c, h⟩ := h
  have c0 := h.c0
  have ht := h.row 0 (by simp)
  have a0 := ht.fk
  have a1 := ht.ft
  have a2 := ht.fm
  have a3 := ht.fl
  have a4 := ht.fc
  have hcc := h.hc
  have hB := h.lt
  have hTs : T < w.heap.size := Nat.lt_trans h.hT hB
  simp only [Nat.add_zero, List.getElem_cons_zero, List.length_cons] at a0 a1 a2 a3 a4 c0 hcc
  clear h ht
  unfold tokW tokV
  go_enter Tryz.func74, Tryz.ntmps74
  go_wp2
  exact bodyPost_ret (by simp [results, Tryz.results74, go_sem]) rfl ⟨rfl, (Below.refl _ _).alloc (Nat.le_refl _) _⟩
end Go.Proofs.YtnalgnklgmoepaaGreatDoor
namespace Go.Proofs.YtnalgnklgmoepaaGreatDoor
open Go Go.RowKit

/-- A call gives up at a place. -/
def Pan (B : Nat) (ln c code : Int) (w : World) (e : Ending) (w' : World) : Prop :=
  e = .panicked [{ v := faultV ln c code, recovered := false }] ∧ w.grownBy w' (some B)

set_option maxHeartbeats 1000000 in
theorem fail_any (B : Nat) (t : Tok) (r : List Tok) (d code : Int) (w : World) (h : PsAt B (t :: r) d w) :
    Calls Tryz.prog 107 #[.pointer (some ⟨B, 0, none⟩), .int .i64 code] w (Pan B t.line t.col code w) := by
  have H := Lib.hid (peek_any B t r d w h)
  clear h
  unfold Pan
  go_enter Tryz.func107, Tryz.ntmps107
  go_wp2_with fail
  refine (H.out).mono ?_
  rintro e w1 ⟨rfl, hb⟩
  unfold tokW tokV
  go_wp2
  exact ⟨rfl, rfl, below_grown (hb.alloc hb.size _) _⟩

set_option maxHeartbeats 1000000 in
theorem node_any (t : Tok) (k x : ByteArray) (w : World) :
    Calls Tryz.prog 73 #[tokW t, .string k, .string x] w fun e w' => e = .returned (.agg #[.string k, .string x, .int .u64 0, .int .i64 t.line, .int .i64 t.col, .slice none 0 0]) ∧ Below w.heap.size w w' := by
  unfold tokW tokV
  go_enter Tryz.func73, Tryz.ntmps73
  go_wp2
  exact bodyPost_ret (by simp [results, Tryz.results73, go_sem]) rfl ⟨rfl, ((Below.refl _ _).alloc (Nat.le_refl _) _).alloc (by simp) _⟩

theorem field_kind (a b c d e : Value) (w : World) : (Instr.field 55 (.agg #[a, b, c, d, e]) 0).run Tryz.prog w = .ok a w := by kernel_rfl
theorem field_text (a b c d e : Value) (w : World) : (Instr.field 55 (.agg #[a, b, c, d, e]) 1).run Tryz.prog w = .ok b w := by kernel_rfl
set_option maxHeartbeats 1000000 in
set_option maxRecDepth 100000 in
theorem at_any (B : Nat) (t : Tok) (r : List Tok) (d : Int) (x : List UInt8) (w : World) (h : PsAt B (t :: r) d w) :
    Calls Tryz.prog 91 #[.pointer (some ⟨B, 0, none⟩), .string ⟨x.toArray⟩] w fun e w' => e = .returned (.bool (t.text == x)) ∧ Below w.heap.size w w' := by
  have H := Lib.hid (peek_any B t r d w h)
  clear h
  have hf := field_text
  go_enter Tryz.func91, Tryz.ntmps91
  go_wp2_with fail
  refine (H.out).mono ?_
  rintro e w1 ⟨rfl, hb⟩
  unfold tokW tokV
  go_wp2
  go_ret
  exact ⟨rfl, hb⟩

set_option maxHeartbeats 1000000 in
set_option maxRecDepth 100000 in
theorem take_no (B : Nat) (t : Tok) (r : List Tok) (d : Int) (w : World) (h : PsAt B (t :: r) d w) :
    Calls Tryz.prog 105 #[.pointer (some ⟨B, 0, none⟩), .bool false] w (Pan B t.line t.col 30 w) := by
  have ha := (Below.refl w.heap.size w).alloc (Nat.le_refl _) (.cells #[.int .i64 0, .string ⟨#[]⟩, .int .u64 0, .int .i64 0, .int .i64 0] 55)
  have H := Lib.hid (fail_any B t r d 30 _ (h.below ha))
  clear h
  unfold Pan
  go_enter Tryz.func105, Tryz.ntmps105
  go_wp2_with fail
  refine (H.out).mono ?_
  rintro e w1 ⟨rfl, hb⟩
  exact ⟨rfl, rfl, grown_trans (below_grown ha _) hb⟩

set_option maxHeartbeats 2000000 in
set_option maxRecDepth 100000 in
theorem take_yes (B : Nat) (t : Tok) (r : List Tok) (d : Int) (w : World) (h : PsAt B (t :: r) d w) (ht : t.text ≠ []) :
    Calls Tryz.prog 105 #[.pointer (some ⟨B, 0, none⟩), .bool true] w fun e w' => e = .returned (tokW t) ∧ PsAt B r d w' ∧ w.grownBy w' (some B) := by
  have ha := (Below.refl w.heap.size w).alloc (Nat.le_refl _) (.cells #[.int .i64 0, .string ⟨#[]⟩, .int .u64 0, .int .i64 0, .int .i64 0] 55)
  have H := Lib.hid (peek_any B t r d _ (h.below ha))
  have R0 := LTok.new tok0 w
  go_enter Tryz.func105, Tryz.ntmps105
  go_wp2_with fail
  refine (H.out).mono ?_
  rintro e w1 ⟨rfl, hb⟩
  have h1 := h.below (ha.trans (hb.mono ha.size))
  have hne : w.heap.size < w1.heap.size := by have := hb.size; simp at this; omega
  have HA := Lib.hid (ha.trans (hb.mono ha.size))
  have hBw := h.lt
  have R1 := R0.below hb
  clear hb ha h H R0
  obtain ⟨lo, T, o, c, h1⟩ := h1
  have c0 := h1.c0
  have f0 := h1.f0
  have hcc := h1.hc
  have hB := h1.lt
  have hm := h1.hm
  simp only [List.length_cons] at c0 hcc
  have HC := Lib.hid (clone_any ⟨t.text.toArray⟩)
  have hsz : (⟨t.text.toArray⟩ : ByteArray).size ≤ 65536 := h1.ht t (by simp)
  have hc1 : ¬ c = 1 := by
    obtain ⟨t', r', rfl⟩ := (h1.ends.tail ht).ne
    simp at hcc
    omega
  have HS := Lib.hid (h1.step ht)
  have HN := Lib.hid (LTok.new t (w1.setCell ⟨B, 0, none⟩ (.slice (some ⟨T, o * 5 + 5, none⟩) r.length (c - 1))))
  have HR := Lib.hid R1
  clear h1 R1
  unfold tokW tokV
  go_wp2_with fail
  refine (HC.out _ hsz).mono ?_
  rintro e w2 ⟨rfl, hb2⟩
  have hg1 := grown_alloc (grown_setB w1 B 0 (.slice (some ⟨T, o * 5 + 5, none⟩) r.length (c - 1))) (.cells #[.int .i64 t.kind, .string ⟨t.text.toArray⟩, .int .u64 t.num, .int .i64 t.line, .int .i64 t.col] 55)
  have hN2 := HN.out.below hb2
  simp only [World.size_setCell] at hN2
  have hR2 := (HR.out.grown hg1 (by simp; omega)).below hb2
  have hS2 := PsAt.below (PsAt.grown ⟨_, _, _, _, HS.out⟩ (World.grownBy_alloc _ _ none) (fun _ e => by cases e)) hb2
  have HG := Lib.hid (grown_trans (below_grown HA.out (some B)) (grown_trans hg1 (below_grown hb2 (some B))))
  have hsz2 : w1.heap.size < w2.heap.size := hN2.lt
  have HS2 := Lib.hid hS2
  clear hS2 hb2 hg1 HS HN HR HC
  have q0 := hN2.c0; have q1 := hN2.c1; have q2 := hN2.c2; have q3 := hN2.c3; have q4 := hN2.c4; have qf := hN2.f 1 (by omega)
  have r0 := hR2.c0; have r1 := hR2.c1; have r2 := hR2.c2; have r3 := hR2.c3; have r4 := hR2.c4
  have g0 := hR2.f 0 (by omega); have g1 := hR2.f 1 (by omega); have g2 := hR2.f 2 (by omega); have g3 := hR2.f 3 (by omega); have g4 := hR2.f 4 (by omega)
  clear hN2 hR2
  go_wp2
  refine bodyPost_ret (v := tokW t) (by simp [results, Tryz.results105, go_sem, tokW, tokV, r0, r1, r2, r3, r4]) rfl ⟨rfl, ?_, ?_⟩
  · exact (((((HS2.out.set (by omega) _ _).set hBw _ _).set hBw _ _).set hBw _ _).set hBw _ _).set hBw _ _
  · have h0 := Nat.le_refl w.heap.size
    exact grown_new (grown_new (grown_new (grown_new (grown_new (grown_new HG.out (by omega) _ _) h0 _ _) h0 _ _) h0 _ _) h0 _ _) h0 _ _
end Go.Proofs.YtnalgnklgmoepaaGreatDoor
