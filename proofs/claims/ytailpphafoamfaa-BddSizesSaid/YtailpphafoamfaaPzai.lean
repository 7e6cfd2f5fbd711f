/- What is put together of diagrams. A new store; how many nodes, how many steps. What a diagram is, where variables are as told. Rebuilding: what joins, what is done. Rebuilding. The rebuilder. -/
import Derived.Laws.EntriesVeiled
import Derived.Test.YtailpphafoamfaaPzah
set_option linter.all false
namespace Go.Proofs.Ytailpphafoamfaa
open Go Go.RowKit Go.Maps


section
variable {M : List Nd} {w w' w2 : World} {o o' o2 : Nat → Nat} {g g' g2 : SG} {D D' : DG} {f : Nat}
theorem nums_two (w : World) (x y : Int) : Nums (w.alloc (.cells #[.int .i64 x, .int .i64 y] 3)) (.slice (some ⟨w.heap.size, 0, none⟩) 2 2) [x, y] :=
  ⟨_, 2, rfl, fun _ => ⟨w.heap.size, 0, rfl, by simp, fun j z hz => by
    have h := (MapKept.heap_alloc w (.cells #[.int .i64 x, .int .i64 y] 3)).1
    match j, hz with
    | 0, hz => simp at hz; subst hz; exact (cell_of h).trans rfl
    | 1, hz => simp at hz; subst hz; exact (cell_of h).trans rfl
    | j + 2, hz => simp at hz⟩⟩
theorem nums_three (w : World) (x y u : Int) : Nums (w.alloc (.cells #[.int .i64 x, .int .i64 y, .int .i64 u] 3)) (.slice (some ⟨w.heap.size, 0, none⟩) 3 3) [x, y, u] :=
  ⟨_, 3, rfl, fun _ => ⟨w.heap.size, 0, rfl, by simp, fun j z hz => by
    have h := (MapKept.heap_alloc w (.cells #[.int .i64 x, .int .i64 y, .int .i64 u] 3)).1
    match j, hz with
    | 0, hz => simp at hz; subst hz; exact (cell_of h).trans rfl
    | 1, hz => simp at hz; subst hz; exact (cell_of h).trans rfl
    | 2, hz => simp at hz; subst hz; exact (cell_of h).trans rfl
    | j + 3, hz => simp at hz⟩⟩
theorem okB_nat {n : Nat} {x : Int} (h : okB n x = true) : ∃ k : Nat, x = (k : Int) ∧ k < n := by
  unfold okB at h
  simp at h
  exact ⟨x.toNat, by omega, by omega⟩
theorem okB_of {n k : Nat} (h : k < n) : okB n (k : Int) = true := by
  unfold okB
  simp
  omega
theorem done_none (op : Bool → Bool → Bool → Bool) (L : List Nd) : DoneOk op L (fun _ => none) := fun v x h => by cases h
/-- What combining and keeping leave. -/
theorem op_comb {op : Bool → Bool → Bool → Bool} {wa wb wc : World} {oa ob oc : Nat → Nat} {Da : DG} {E : Env} {f g0 h r : Nat} {gc : SG} {Dc : DG} {mp : Value → Option Value} {e : Ending}
    (hk0 : Keep T0 w o wa oa) (hd : DS wa oa g Da) (hd0 : Da.ds = [] ∧ 65536 ≤ Da.most) (hk1 : Keep (fun _ => false) wa oa wb ob) (hf : f < g.ns.length) (hg : g0 < g.ns.length) (hh : h < g.ns.length)
    (hc : CombOut op wb ob g Da E f g0 h r wc oc gc Dc mp) (hp : KeepPost wc oc gc Dc r e w') : OpPost w o g (fun m => op (ev g.ns f m) (ev g.ns g0 m) (ev g.ns h m)) (2 ^ (g.V - m3 g.ns f g0 h) - 1) 0 e w' := by
  have hl0 : lst g Da = g.ns := by unfold lst; rw [hd0.1, List.append_nil]
  have h1 := hc.len
  have h2 := hc.W
  rw [hd0.1, hl0] at h1
  rw [hl0] at h2
  simp only [List.length_nil] at h1
  refine op_of_keep hk0 hd rfl hd0 ((hk1.more (t0_of rfl)).trans (hc.keep.more (t0_of rfl))) hc.ds hc.ext (by omega) (by omega) hc.ext.W (fun hfu m => ?_) hp
  have h3 := hc.is.resolve_left (by rw [hfu]; simp)
  obtain ⟨K, hK⟩ := hc.ext.ex
  rw [hl0] at hK
  have hwf := hc.ds.wf
  rw [hc.ext.V] at hwf
  rw [h3.ev m, hK]
  rw [hK] at hwf
  rw [ev_app hd.st.wf hwf m f hf, ev_app hd.st.wf hwf m g0 hg, ev_app hd.st.wf hwf m h hh]
def bad92 (w : World) (e : Ending) (w' : World) : Prop := e = .returned (.tuple #[.int .i64 0, .int .i64 92]) ∧ w.grownBy w' none
def ItePost (w : World) (o : Nat → Nat) (g : SG) (f g0 h : Int) (e : Ending) (w' : World) : Prop :=
  if allB g.ns.length [f, g0, h] = true then OpPost w o g (fun m => iteB (ev g.ns f.toNat m) (ev g.ns g0.toNat m) (ev g.ns h.toNat m)) (2 ^ (g.V - m3 g.ns f.toNat g0.toNat h.toNat) - 1) 0 e w' else bad92 w e w'
def IffPost (w : World) (o : Nat → Nat) (g : SG) (f g0 : Int) (e : Ending) (w' : World) : Prop :=
  if allB g.ns.length [f, g0] = true then OpPost w o g (fun m => iffB (ev g.ns f.toNat m) (ev g.ns g0.toNat m) false) (2 ^ g.V) 0 e w' else bad92 w e w'
set_option maxHeartbeats 8000000 in
set_option maxRecDepth 100000 in
theorem ite_bad (h : StoreAt w o g) (f g0 u : Int) (hv : allB g.ns.length [f, g0, u] = false) : Calls Try.prog 43 #[.pointer (some ⟨g.s, 0, none⟩), .int .i64 f, .int .i64 g0, .int .i64 u] w (ItePost w o g f g0 u) := by
  have HV := Lib.hid (hasNodes_any (h.alloc (.cells #[.int .i64 f, .int .i64 g0, .int .i64 u] 3)) (nums_three w f g0 u) (by simp))
  rw [hv] at HV
  have HE := Lib.hid (show ItePost w o g f g0 u (.returned (.tuple #[.int .i64 0, .int .i64 92])) (w.alloc (.cells #[.int .i64 f, .int .i64 g0, .int .i64 u] 3)) from by
    unfold ItePost
    rw [if_neg (by rw [hv]; simp)]
    exact ⟨rfl, grown_alloc _ _⟩)
  have hnot : ∀ (x : Bool) (w : World), (Op.unary .not (.bool x)).run Try.prog w = .ok (.bool (!x)) w := fun _ _ => rfl
  clear h hv
  go_enter Try.func43, Try.ntmps43
  go_wp2_with fail
  refine (HV.out).mono ?_
  rintro e w1 ⟨rfl, rfl⟩
  go_wp2
  go_ret2
  exact HE.out
set_option maxHeartbeats 8000000 in
set_option maxRecDepth 100000 in
theorem ite_good (h : StoreAt w o g) (f g0 u : Nat) (hf : f < g.ns.length) (hg0 : g0 < g.ns.length) (hu : u < g.ns.length) : Calls Try.prog 43 #[.pointer (some ⟨g.s, 0, none⟩), .int .i64 (f : Int), .int .i64 (g0 : Int), .int .i64 (u : Int)] w (ItePost w o g (f : Int) (g0 : Int) (u : Int)) := by
  have HV := Lib.hid (hasNodes_any (h.alloc (.cells #[.int .i64 (f : Int), .int .i64 (g0 : Int), .int .i64 (u : Int)] 3)) (nums_three w (f : Int) (g0 : Int) (u : Int)) (by simp))
  have e0 : allB g.ns.length [(f : Int), (g0 : Int), (u : Int)] = true := by simp [allB, okB_of hf, okB_of hg0, okB_of hu]
  rw [e0] at HV
  have HDR := Lib.hid (draft_any (h.alloc (.cells #[.int .i64 (f : Int), .int .i64 (g0 : Int), .int .i64 (u : Int)] 3)))
  have HE := Lib.hid e0
  have hbd := h.bd
  have qf : wrap32 (f : Int) = (f : Int) := wrap32_id (by omega)
  have qg0 : wrap32 (g0 : Int) = (g0 : Int) := wrap32_id (by omega)
  have qu : wrap32 (u : Int) = (u : Int) := wrap32_id (by omega)
  have HH := Lib.hid h
  have HL := Lib.hid (show f < g.ns.length ∧ g0 < g.ns.length ∧ u < g.ns.length from ⟨hf, hg0, hu⟩)
  have HL3 := Lib.hid (show u < g.ns.length from hu)
  have hnot : ∀ (x : Bool) (w : World), (Op.unary .not (.bool x)).run Try.prog w = .ok (.bool (!x)) w := fun _ _ => rfl
  clear h e0 hbd hf hg0 hu
  go_enter Try.func43, Try.ntmps43
  go_wp2_with fail
  refine (HV.out).mono ?_
  rintro e w1 ⟨rfl, rfl⟩
  go_wp2_with fail
  refine (HDR.out).mono ?_
  rintro e w2 ⟨d, dm, o2, rfl, hst, hdr, hk⟩
  have HS2 := Lib.hid (show DS w2 o2 g _ from ⟨hst, hdr⟩)
  have HK2 := Lib.hid (show Keep T0 w o w2 o2 from (keep_alloc T0 w o _).trans (hk.more (t0_of rfl)))
  clear hst hdr hk
  have HCB := Lib.hid (combiner_any HS2.out _ set_chosen)
  go_wp2_with fail
  refine (HCB.out).mono ?_
  rintro e w3 ⟨E, o3, rfl, hfv, hs3, hc3, hk3⟩
  have HS3 := Lib.hid hs3
  have HC3 := Lib.hid hc3
  have HK3 := Lib.hid hk3
  have HCC := Lib.hid (combC_any chosen_settles g.V w3 o3 g _ E _ f g0 u hs3 hc3 (by rw [hfv]; exact set_chosen) (.inr (done_none _ _)) (by unfold lst; simp; exact HL.out.1) (by unfold lst; simp; exact HL.out.2.1) (by unfold lst; simp; exact HL3.out) (by omega))
  clear hs3 hc3 hk3 hfv
  unfold combV
  go_wp2_with fail
  refine (HCC.out).mono ?_
  rintro e w4 ⟨r, o4, g4, D4, mp4, rfl, hout⟩
  have HO := Lib.hid hout
  have hkp := keep_any hout.ds hout.lt
  rw [hout.ext.d] at hkp
  have HKP := Lib.hid hkp
  clear hout hkp
  go_wp2_with fail
  refine (HKP.out).mono ?_
  intro e w5 hp
  have hop := op_comb HK2.out HS2.out ⟨rfl, Nat.le_max_left _ _⟩ HK3.out HL.out.1 HL.out.2.1 HL3.out HO.out hp
  have HFIN := Lib.hid (show ItePost w o g (f : Int) (g0 : Int) (u : Int) e w5 from by
    unfold ItePost
    rw [if_pos HE.out]
    exact hop)
  clear hop
  rcases hp with ⟨rfl, -⟩ | ⟨r', o', g', rfl, -⟩
  · go_wp2
    go_ret2
    exact HFIN.out
  · go_wp2
    go_ret2
    exact HFIN.out
theorem ite_any (h : StoreAt w o g) (f g0 u : Int) : Calls Try.prog 43 #[.pointer (some ⟨g.s, 0, none⟩), .int .i64 f, .int .i64 g0, .int .i64 u] w (ItePost w o g f g0 u) := by
  cases hv : allB g.ns.length [f, g0, u] with
  | false => exact ite_bad h f g0 u hv
  | true =>
    simp only [allB, List.all_cons, List.all_nil, Bool.and_eq_true, Bool.and_true] at hv
    obtain ⟨hf, hg0, hu⟩ := hv
    obtain ⟨kf, rfl, lf⟩ := okB_nat hf
    obtain ⟨kg0, rfl, lg0⟩ := okB_nat hg0
    obtain ⟨ku, rfl, lu⟩ := okB_nat hu
    exact ite_good h kf kg0 ku lf lg0 lu
set_option maxHeartbeats 8000000 in
set_option maxRecDepth 100000 in
theorem iff_bad (h : StoreAt w o g) (f g0 : Int) (hv : allB g.ns.length [f, g0] = false) : Calls Try.prog 34 #[.pointer (some ⟨g.s, 0, none⟩), .int .i64 f, .int .i64 g0] w (IffPost w o g f g0) := by
  have HV := Lib.hid (hasNodes_any (h.alloc (.cells #[.int .i64 f, .int .i64 g0] 3)) (nums_two w f g0) (by simp))
  rw [hv] at HV
  have HE := Lib.hid (show IffPost w o g f g0 (.returned (.tuple #[.int .i64 0, .int .i64 92])) (w.alloc (.cells #[.int .i64 f, .int .i64 g0] 3)) from by
    unfold IffPost
    rw [if_neg (by rw [hv]; simp)]
    exact ⟨rfl, grown_alloc _ _⟩)
  have hnot : ∀ (x : Bool) (w : World), (Op.unary .not (.bool x)).run Try.prog w = .ok (.bool (!x)) w := fun _ _ => rfl
  clear h hv
  go_enter Try.func34, Try.ntmps34
  go_wp2_with fail
  refine (HV.out).mono ?_
  rintro e w1 ⟨rfl, rfl⟩
  go_wp2
  go_ret2
  exact HE.out
set_option maxHeartbeats 8000000 in
set_option maxRecDepth 100000 in
theorem iff_good (h : StoreAt w o g) (f g0 : Nat) (hf : f < g.ns.length) (hg0 : g0 < g.ns.length) : Calls Try.prog 34 #[.pointer (some ⟨g.s, 0, none⟩), .int .i64 (f : Int), .int .i64 (g0 : Int)] w (IffPost w o g (f : Int) (g0 : Int)) := by
  have HV := Lib.hid (hasNodes_any (h.alloc (.cells #[.int .i64 (f : Int), .int .i64 (g0 : Int)] 3)) (nums_two w (f : Int) (g0 : Int)) (by simp))
  have e0 : allB g.ns.length [(f : Int), (g0 : Int)] = true := by simp [allB, okB_of hf, okB_of hg0]
  rw [e0] at HV
  have HDR := Lib.hid (draft_any (h.alloc (.cells #[.int .i64 (f : Int), .int .i64 (g0 : Int)] 3)))
  have HE := Lib.hid e0
  have hbd := h.bd
  have qf : wrap32 (f : Int) = (f : Int) := wrap32_id (by omega)
  have qg0 : wrap32 (g0 : Int) = (g0 : Int) := wrap32_id (by omega)
  have HH := Lib.hid h
  have HL := Lib.hid (show f < g.ns.length ∧ g0 < g.ns.length from ⟨hf, hg0⟩)
  have HL3 := Lib.hid (show 0 < g.ns.length from (by have := HH.out.wf.two; omega))
  have hnot : ∀ (x : Bool) (w : World), (Op.unary .not (.bool x)).run Try.prog w = .ok (.bool (!x)) w := fun _ _ => rfl
  clear h e0 hbd hf hg0
  go_enter Try.func34, Try.ntmps34
  go_wp2_with fail
  refine (HV.out).mono ?_
  rintro e w1 ⟨rfl, rfl⟩
  go_wp2_with fail
  refine (HDR.out).mono ?_
  rintro e w2 ⟨d, dm, o2, rfl, hst, hdr, hk⟩
  have HS2 := Lib.hid (show DS w2 o2 g _ from ⟨hst, hdr⟩)
  have HK2 := Lib.hid (show Keep T0 w o w2 o2 from (keep_alloc T0 w o _).trans (hk.more (t0_of rfl)))
  clear hst hdr hk
  have HCB := Lib.hid (combiner_any HS2.out _ set_alike)
  go_wp2_with fail
  refine (HCB.out).mono ?_
  rintro e w3 ⟨E, o3, rfl, hfv, hs3, hc3, hk3⟩
  have HS3 := Lib.hid hs3
  have HC3 := Lib.hid hc3
  have HK3 := Lib.hid hk3
  have HCC := Lib.hid (combC_any alike_settles g.V w3 o3 g _ E _ f g0 0 hs3 hc3 (by rw [hfv]; exact set_alike) (.inr (done_none _ _)) (by unfold lst; simp; exact HL.out.1) (by unfold lst; simp; exact HL.out.2) (by unfold lst; simp; exact HL3.out) (by omega))
  clear hs3 hc3 hk3 hfv
  unfold combV
  go_wp2_with fail
  refine (HCC.out).mono ?_
  rintro e w4 ⟨r, o4, g4, D4, mp4, rfl, hout⟩
  have HO := Lib.hid hout
  have hkp := keep_any hout.ds hout.lt
  rw [hout.ext.d] at hkp
  have HKP := Lib.hid hkp
  clear hout hkp
  go_wp2_with fail
  refine (HKP.out).mono ?_
  intro e w5 hp
  have hop := op_comb HK2.out HS2.out ⟨rfl, Nat.le_max_left _ _⟩ HK3.out HL.out.1 HL.out.2 HL3.out HO.out hp
  have HFIN := Lib.hid (show IffPost w o g (f : Int) (g0 : Int) e w5 from by
    unfold IffPost
    rw [if_pos HE.out]
    exact (by
      simp only [Int.toNat_natCast]
      obtain ⟨oz, gz, hz⟩ := hop.mono (c' := 2 ^ g.V) (Nat.le_trans (Nat.sub_le _ _) (pow_le_V _ _))
      exact ⟨oz, gz, hz.st, hz.keep, hz.ups, hz.W1, hz.W2, hz.res.imp id (fun ⟨r, h1, h2, h3, h4⟩ => ⟨r, h1, h2, h3, fun m => h4 m⟩), hz.src⟩))
  clear hop
  rcases hp with ⟨rfl, -⟩ | ⟨r', o', g', rfl, -⟩
  · go_wp2
    go_ret2
    exact HFIN.out
  · go_wp2
    go_ret2
    exact HFIN.out
theorem iff_any (h : StoreAt w o g) (f g0 : Int) : Calls Try.prog 34 #[.pointer (some ⟨g.s, 0, none⟩), .int .i64 f, .int .i64 g0] w (IffPost w o g f g0) := by
  cases hv : allB g.ns.length [f, g0] with
  | false => exact iff_bad h f g0 hv
  | true =>
    simp only [allB, List.all_cons, List.all_nil, Bool.and_eq_true, Bool.and_true] at hv
    obtain ⟨hf, hg0⟩ := hv
    obtain ⟨kf, rfl, lf⟩ := okB_nat hf
    obtain ⟨kg0, rfl, lg0⟩ := okB_nat hg0
    exact iff_good h kf kg0 lf lg0
set_option maxHeartbeats 8000000 in
set_option maxRecDepth 100000 in
theorem not_any (h : StoreAt w o g) (f : Int) : Calls Try.prog 27 #[.pointer (some ⟨g.s, 0, none⟩), .int .i64 f] w (ItePost w o g f 0 1) := by
  have HI := Lib.hid (ite_any h f 0 1)
  have HX := Lib.hid (show ∀ e w', ItePost w o g f 0 1 e w' → ∃ x y, e = .returned (.tuple #[.int .i64 x, .int .i64 y]) from fun e w' hp => by
    unfold ItePost at hp
    split at hp
    · obtain ⟨o', g', hz⟩ := hp
      rcases hz.res with ⟨h1, -⟩ | ⟨r, h1, -⟩
      · exact ⟨_, _, h1⟩
      · exact ⟨_, _, h1⟩
    · exact ⟨_, _, hp.1⟩)
  clear h
  go_enter Try.func27, Try.ntmps27
  go_wp2_with fail
  refine (HI.out).mono ?_
  intro e w5 hp
  have HP := Lib.hid hp
  obtain ⟨x, y, rfl⟩ := HX.out e w5 hp
  clear hp
  go_wp2
  go_ret2
  exact HP.out
set_option maxHeartbeats 8000000 in
set_option maxRecDepth 100000 in
theorem and_any (h : StoreAt w o g) (f g0 : Int) : Calls Try.prog 32 #[.pointer (some ⟨g.s, 0, none⟩), .int .i64 f, .int .i64 g0] w (ItePost w o g f g0 0) := by
  have HI := Lib.hid (ite_any h f g0 0)
  have HX := Lib.hid (show ∀ e w', ItePost w o g f g0 0 e w' → ∃ x y, e = .returned (.tuple #[.int .i64 x, .int .i64 y]) from fun e w' hp => by
    unfold ItePost at hp
    split at hp
    · obtain ⟨o', g', hz⟩ := hp
      rcases hz.res with ⟨h1, -⟩ | ⟨r, h1, -⟩
      · exact ⟨_, _, h1⟩
      · exact ⟨_, _, h1⟩
    · exact ⟨_, _, hp.1⟩)
  clear h
  go_enter Try.func32, Try.ntmps32
  go_wp2_with fail
  refine (HI.out).mono ?_
  intro e w5 hp
  have HP := Lib.hid hp
  obtain ⟨x, y, rfl⟩ := HX.out e w5 hp
  clear hp
  go_wp2
  go_ret2
  exact HP.out
set_option maxHeartbeats 8000000 in
set_option maxRecDepth 100000 in
theorem or_any (h : StoreAt w o g) (f g0 : Int) : Calls Try.prog 33 #[.pointer (some ⟨g.s, 0, none⟩), .int .i64 f, .int .i64 g0] w (ItePost w o g f 1 g0) := by
  have HI := Lib.hid (ite_any h f 1 g0)
  have HX := Lib.hid (show ∀ e w', ItePost w o g f 1 g0 e w' → ∃ x y, e = .returned (.tuple #[.int .i64 x, .int .i64 y]) from fun e w' hp => by
    unfold ItePost at hp
    split at hp
    · obtain ⟨o', g', hz⟩ := hp
      rcases hz.res with ⟨h1, -⟩ | ⟨r, h1, -⟩
      · exact ⟨_, _, h1⟩
      · exact ⟨_, _, h1⟩
    · exact ⟨_, _, hp.1⟩)
  clear h
  go_enter Try.func33, Try.ntmps33
  go_wp2_with fail
  refine (HI.out).mono ?_
  intro e w5 hp
  have HP := Lib.hid hp
  obtain ⟨x, y, rfl⟩ := HX.out e w5 hp
  clear hp
  go_wp2
  go_ret2
  exact HP.out
end

end Go.Proofs.Ytailpphafoamfaa
namespace Go.Proofs.Ytailpphafoamfaa
open Go Go.RowKit Go.Maps


section
variable {M : List Nd} {w w' w2 : World} {o o' o2 : Nat → Nat} {g g' g2 : SG}
def NewPost (w : World) (o : Nat → Nat) (V R : Int) (e : Ending) (w' : World) : Prop :=
  (¬ (0 ≤ V ∧ V ≤ 256) ∧ e = .returned (.tuple #[.pointer none, .int .i64 91]) ∧ w = w') ∨
  ((0 ≤ V ∧ V ≤ 256) ∧ ¬ (2 ≤ R ∧ R ≤ 16777216) ∧ e = .returned (.tuple #[.pointer none, .int .i64 90]) ∧ w = w') ∨
  ((0 ≤ V ∧ V ≤ 256) ∧ (2 ≤ R ∧ R ≤ 16777216) ∧ ∃ (s : Nat) (val : Value) (o' : Nat → Nat), e = .returned (.tuple #[.pointer (some ⟨s, 0, none⟩), .int .i64 0]) ∧
    StoreAt w' o' ⟨s, V.toNat, R.toNat, [⟨V.toNat, 0, 0⟩, ⟨V.toNat, 1, 1⟩], val, none, 0⟩ ∧ Keep (fun _ => false) w o w' o')
theorem new_at (hn : ∀ k, w.heap.size ≤ k → o k = 0) (V R : Nat) (hV : V ≤ 256) (hR : 2 ≤ R ∧ R ≤ 16777216) (hw : w' = (w.alloc (.cells (cellsN [⟨V, 0, 0⟩, ⟨V, 1, 1⟩]).toArray 63)).alloc (.cells (sCells ⟨w.heap.size + 1, V, R, [⟨V, 0, 0⟩, ⟨V, 1, 1⟩], .slice (some ⟨w.heap.size, 0, none⟩) 2 2, none, 0⟩) 82)) :
    ∃ o', StoreAt w' o' ⟨w.heap.size + 1, V, R, [⟨V, 0, 0⟩, ⟨V, 1, 1⟩], .slice (some ⟨w.heap.size, 0, none⟩) 2 2, none, 0⟩ ∧ Keep (fun _ => false) w o w' o' := by
  subst hw
  have e1 : (w.alloc (.cells (cellsN [⟨V, 0, 0⟩, ⟨V, 1, 1⟩]).toArray 63)).heap.size = w.heap.size + 1 := by simp
  have h1 := (MapKept.heap_alloc w (.cells (cellsN [⟨V, 0, 0⟩, ⟨V, 1, 1⟩]).toArray 63)).1
  have h2 := (MapKept.heap_alloc (w.alloc (.cells (cellsN [⟨V, 0, 0⟩, ⟨V, 1, 1⟩]).toArray 63)) (.cells (sCells ⟨w.heap.size + 1, V, R, [⟨V, 0, 0⟩, ⟨V, 1, 1⟩], .slice (some ⟨w.heap.size, 0, none⟩) 2 2, none, 0⟩) 82)).1
  rw [e1] at h2
  refine ⟨ownG (ownG o w.heap.size 2) (w.heap.size + 1) 1, ⟨h2, ownG_same _ _ _, ⟨rfl, .inr ⟨w.heap.size, 2, (cellsN [⟨V, 0, 0⟩, ⟨V, 1, 1⟩]).toArray, rfl, Nat.zero_le _, ?_, Nat.le_refl _, by unfold maxLen; omega, rfl, rfl⟩⟩, fun k hk => ?_, fun _ => rfl, fun b hb => by (cases hb), WF.start V, ⟨hV, hR.2, hR.1⟩, fun k hk => ?_⟩, Keep.grown (grown_trans (grown_alloc _ _) (grown_alloc _ _)) (by simp) (fun k hk => by rw [ownG_other _ _ (by omega), ownG_other _ _ (by omega)])⟩
  · rw [heap_alloc_old (by omega)]
    exact h1
  · cases hk
    rw [ownG_other _ _ (by show w.heap.size ≠ _; omega), ownG_same]
  · simp at hk
    rw [ownG_other _ _ (by omega), ownG_other _ _ (by omega)]
    exact hn k (by omega)
set_option maxHeartbeats 8000000 in
set_option maxRecDepth 100000 in
theorem new_any (hn : ∀ k, w.heap.size ≤ k → o k = 0) (V R : Int) : Calls Try.prog 10 #[.int .i64 V, .int .i64 R] w (NewPost w o V R) := by
  by_cases hV : 0 ≤ V ∧ V ≤ 256
  · by_cases hR : 2 ≤ R ∧ R ≤ 16777216
    · obtain ⟨v, rfl⟩ : ∃ v : Nat, V = v := ⟨V.toNat, by omega⟩
      obtain ⟨r, rfl⟩ : ∃ r : Nat, R = r := ⟨R.toNat, by omega⟩
      have HA := Lib.hid (new_at hn v r (by omega) (by omega) rfl)
      have q1 : ¬ (v : Int) < 0 := by omega
      have q2 : ¬ (v : Int) > 256 := by omega
      have q3 : ¬ (r : Int) < 2 := by omega
      have q4 : ¬ (r : Int) > 16777216 := by omega
      have qw : wrap32 (v : Int) = (v : Int) := wrap32_id (by omega)
      have HV := Lib.hid hV
      have HR := Lib.hid hR
      clear hn hV hR
      go_enter Try.func10, Try.ntmps10
      go_wp2
      go_ret2
      obtain ⟨o', h1, h2⟩ := HA.out
      exact .inr (.inr ⟨HV.out, HR.out, _, _, o', rfl, h1, h2⟩)
    · have HV := Lib.hid hV
      have HR := Lib.hid hR
      have q1 : ¬ V < 0 := by omega
      have q2 : ¬ V > 256 := by omega
      by_cases q3 : R < 2
      · clear hn hV hR
        go_enter Try.func10, Try.ntmps10
        go_wp2
        go_ret2
        exact .inr (.inl ⟨HV.out, HR.out, rfl, rfl⟩)
      · have q4 : R > 16777216 := by omega
        clear hn hV hR
        go_enter Try.func10, Try.ntmps10
        go_wp2
        go_ret2
        exact .inr (.inl ⟨HV.out, HR.out, rfl, rfl⟩)
  · have HV := Lib.hid hV
    by_cases q1 : V < 0
    · clear hn hV
      go_enter Try.func10, Try.ntmps10
      go_wp2
      go_ret2
      exact .inl ⟨HV.out, rfl, rfl⟩
    · have q2 : V > 256 := by omega
      clear hn hV
      go_enter Try.func10, Try.ntmps10
      go_wp2
      go_ret2
      exact .inl ⟨HV.out, rfl, rfl⟩
theorem nodes_any (h : StoreM M w o g) : Calls Try.prog 22 #[.pointer (some ⟨g.s, 0, none⟩)] w fun e w' => e = .returned (.int .i64 (g.ns.length : Int)) ∧ w = w' := by
  have s2 := h.cell2
  obtain ⟨A2, c2, hv2⟩ : ∃ A c, g.val = .slice A g.ns.length c := by
    obtain ⟨-, h1⟩ := h.row
    rcases h1 with ⟨h1, h3⟩ | ⟨gx, cap, cur, h1, -⟩
    · exact ⟨none, 0, by rw [h1, h3]⟩
    · exact ⟨_, _, h1⟩
  rw [hv2] at s2
  clear hv2 h
  go_enter Try.func22, Try.ntmps22
  go_wp2
  go_ret
  exact ⟨rfl, rfl⟩
theorem works_any (h : StoreM M w o g) : Calls Try.prog 23 #[.pointer (some ⟨g.s, 0, none⟩)] w fun e w' => e = .returned (.int .u64 ((g.W % 18446744073709551616 : Nat) : Int)) ∧ w = w' := by
  obtain ⟨x, hx⟩ : ∃ x : Int, ((g.W % 18446744073709551616 : Nat) : Int) = x := ⟨_, rfl⟩
  have s7 := h.cell7
  rw [hx] at s7 ⊢
  have HL := Lib.hid (load_u64 ⟨g.s, 7, none⟩ x w s7)
  clear h hx s7
  go_enter Try.func23, Try.ntmps23
  go_wp2_with fail
  refine (HL.out).mono ?_
  rintro e w1 ⟨rfl, rfl⟩
  go_wp2
  go_ret
  exact ⟨rfl, rfl⟩
end

end Go.Proofs.Ytailpphafoamfaa
namespace Go.Proofs.Ytailpphafoamfaa
open Go Go.RowKit Go.Maps


section
variable {M : List Nd} {w w' w2 : World} {o o' o2 : Nat → Nat} {g g' g2 : SG}
/-- A slice value that reads as bools. -/
def Bools (w : World) (v : Value) (l : List Bool) : Prop := ∃ A c, v = .slice A l.length c ∧ (l ≠ [] → ∃ b off, A = some ⟨b, off, none⟩ ∧ b < w.heap.size ∧ ∀ j x, l[j]? = some x → w.cell? ⟨b, off + j, none⟩ = some (.bool x))
theorem Bools.keep {v : Value} {l : List Bool} (h : Bools w v l) (hk : ∀ k, k < w.heap.size → w'.heap[k]? = w.heap[k]?) (hz : w.heap.size ≤ w'.heap.size) : Bools w' v l := by
  obtain ⟨A, c, h1, h2⟩ := h
  refine ⟨A, c, h1, fun hne => ?_⟩
  obtain ⟨b, off, h3, h4, h5⟩ := h2 hne
  exact ⟨b, off, h3, by omega, fun j x hx => (World.cell?_of_block (a := ⟨b, off + j, none⟩) (hk b h4)).trans (h5 j x hx)⟩
theorem Bools.grown {v : Value} {l : List Bool} (h : Bools w v l) (hg : w.grownBy w' none) : Bools w' v l := h.keep (fun k hk => grown_far hg hk) hg.size
def lookB (l : List Bool) : Nat → Bool := fun v => l.getD v false
def EvalPost (w : World) (g : SG) (f : Int) (is : List Bool) (e : Ending) (w' : World) : Prop :=
  w.grownBy w' none ∧ e = .returned (if okB g.ns.length f = true then (if is.length = g.V then .tuple #[.bool (ev g.ns f.toNat (lookB is)), .int .i64 0] else .tuple #[.bool false, .int .i64 91]) else .tuple #[.bool false, .int .i64 92])
theorem ev_step (h : StoreM M w o g) {k : Nat} {n : Nd} (m : Nat → Bool) (hk : 1 < k) (hn : g.ns[k]? = some n) : ev g.ns (leadN n (m n.v)) m = ev g.ns k m ∧ leadN n (m n.v) < k := by
  have h1 := h.wf.nd k n hk hn
  refine ⟨?_, ?_⟩
  · rw [h.wf.ev_node m hk hn]
    unfold leadN
    cases m n.v <;> rfl
  · unfold leadN
    split <;> omega
set_option maxHeartbeats 8000000 in
set_option maxRecDepth 100000 in
theorem eval_bad (h : StoreM M w o g) (f : Int) (hv : okB g.ns.length f = false) {bv : Value} {is : List Bool} (hb : Bools w bv is) : Calls Try.prog 13 #[.pointer (some ⟨g.s, 0, none⟩), .int .i64 f, bv] w (EvalPost w g f is) := by
  have HV := Lib.hid (hasNodes_any (h.alloc (.cells #[.int .i64 f] 3)) (nums_one w f) (by simp))
  have e0 : allB g.ns.length [f] = false := by simp [allB, hv]
  rw [e0] at HV
  have HE := Lib.hid (show EvalPost w g f is (.returned (.tuple #[.bool false, .int .i64 92])) (w.alloc (.cells #[.int .i64 f] 3)) from ⟨grown_alloc _ _, by rw [if_neg (by rw [hv]; simp)]⟩)
  have hnot : ∀ (x : Bool) (w : World), (Op.unary .not (.bool x)).run Try.prog w = .ok (.bool (!x)) w := fun _ _ => rfl
  clear h hv e0 hb
  go_enter Try.func13, Try.ntmps13
  go_wp2_with fail
  refine (HV.out).mono ?_
  rintro e w1 ⟨rfl, rfl⟩
  go_wp2
  go_ret2
  exact HE.out
set_option maxHeartbeats 8000000 in
set_option maxRecDepth 100000 in
theorem eval_good (h : StoreM M w o g) (f : Nat) (hv : f < g.ns.length) {bv : Value} {is : List Bool} (hb : Bools w bv is) (hil : is.length ≤ 1000000) : Calls Try.prog 13 #[.pointer (some ⟨g.s, 0, none⟩), .int .i64 (f : Int), bv] w (EvalPost w g (f : Int) is) := by
  have HV := Lib.hid (hasNodes_any (h.alloc (.cells #[.int .i64 (f : Int)] 3)) (nums_one w (f : Int)) (by simp))
  have e1 := okB_of hv
  have e0 : allB g.ns.length [(f : Int)] = true := by simp [allB, e1]
  rw [e0] at HV
  have hnot : ∀ (x : Bool) (w : World), (Op.unary .not (.bool x)).run Try.prog w = .ok (.bool (!x)) w := fun _ _ => rfl
  have HA := Lib.hid (h.alloc (.cells #[.int .i64 (f : Int)] 3))
  have HGA := Lib.hid (grown_alloc w (.cells #[.int .i64 (f : Int)] 3))
  have HBB := Lib.hid (hb.grown (grown_alloc w (.cells #[.int .i64 (f : Int)] 3)))
  have HE1 := Lib.hid e1
  have s0 := HA.out.cell0
  obtain ⟨A, c, rfl, -⟩ := hb
  have hbd := h.bd
  have HBD := Lib.hid hbd
  have HF := Lib.hid hv
  by_cases hlen : is.length = g.V
  · have qn : (((is.length : Nat) : Int) != ((g.V : Nat) : Int)) = false := by simp; omega
    have HLEN := Lib.hid hlen
    have qw : wrap32 (f : Int) = (f : Int) := wrap32_id (by omega)
    clear h hv e0 e1 hbd hlen
    go_enter Try.func13, Try.ntmps13
    go_wp2_with fail
    refine (HV.out).mono ?_
    rintro e w1 ⟨rfl, hw1⟩
    rw [hw1] at HA HGA HBB s0
    clear hw1
    go_wp2
    try rw [qw]
    clear qw
    go_loopw [8] (fun v wr => ∃ k : Nat, v = .int .i32 (k : Int) ∧ Hid (k < g.ns.length ∧ ev g.ns k (lookB is) = ev g.ns f (lookB is) ∧ w1.grownBy wr none)) (fun v _ => (intOf v).toNat)
    case atStart => exact ⟨f, rfl, Lib.hid ⟨HF.out, rfl, World.grownBy.refl _ _⟩⟩
    case round =>
      obtain ⟨k, rfl, hK⟩ := hrel
      have HK := hK
      by_cases hk : 1 < k
      · obtain ⟨n, hn⟩ := get_lt HK.out.1
        have HR := Lib.hid (HA.out.grown HK.out.2.2)
        obtain ⟨gx, c2, hvv, k0, k1, k2, hx⟩ := row_node HR.out.row hn
        have s2 := HR.out.cell2
        rw [hvv] at s2
        have hnd := HR.out.wf.nd k n hk hn
        obtain ⟨A', c', hA', hcell⟩ := HBB.out.grown HK.out.2.2
        simp at hA'
        obtain ⟨rfl, rfl⟩ := hA'
        obtain ⟨bb, off, rfl, hbb, hcl⟩ := hcell (by intro e; have h1 := HLEN.out; rw [e] at h1; simp at h1; omega)
        have hvl : n.v < is.length := by rw [HLEN.out]; exact hnd.1
        obtain ⟨x, hxx⟩ : ∃ x, is[n.v]? = some x := ⟨_, List.getElem?_eq_getElem hvl⟩
        have kb := hcl _ _ hxx
        have hlk : lookB is n.v = x := by simp [lookB, List.getD_eq_getElem?_getD, hxx]
        have hst := ev_step HR.out (lookB is) hk hn
        rw [hlk] at hst
        have HST := Lib.hid hst
        have q1 : (k : Int) > 1 := by omega
        have q2 : (k : Int) < (g.ns.length : Int) := by have := HK.out.1; omega
        have q3 : (n.v : Int) < (is.length : Int) := by omega
        have hls := HR.out.lts
        clear hn hvv hnd hcell hcl hxx hlk hst hvl
        go_wp2
        refine wp_region_T (S := fun w' => ∀ k ∈ [g.s, gx, bb], w'.heap[k]? = wr.heap[k]?) (tail := fun j => decide (18 ≤ j)) (by kernel_rfl) ?_
        change wpAnyT _ _ _ _ _ _ _ _ _ (World.drew wr)
        have BD := Lib.hid (show ∀ k ∈ [g.s, gx, bb], (World.drew wr).heap[k]? = wr.heap[k]? from fun _ _ => rfl)
        refine tk 0 25 (.pointer (some ⟨g.s, 0, none⟩)) BD.out ?y0 ?_
        case y0 =>
          intro w' hw'
          go_simp
        try simp only [Act.put, List.setIfInBounds_toArray, List.set_cons_zero, List.set_cons_succ]
        refine tk 1 26 (.pointer (some ⟨g.s, 0, none⟩)) BD.out ?y1 ?_
        case y1 =>
          intro w' hw'
          go_simp
        try simp only [Act.put, List.setIfInBounds_toArray, List.set_cons_zero, List.set_cons_succ]
        refine tk 2 27 (.pointer (some ⟨g.s, 2, none⟩)) BD.out ?y2 ?_
        case y2 =>
          intro w' hw'
          go_simp
        try simp only [Act.put, List.setIfInBounds_toArray, List.set_cons_zero, List.set_cons_succ]
        refine tk 3 28 (.slice (some ⟨gx, 0, none⟩) g.ns.length c2) BD.out ?y3 ?_
        case y3 =>
          intro w' hw'
          have y0 := (World.cell?_of_block (a := ⟨g.s, 2, none⟩) (hw' _ (by simp))).trans s2
          go_simp
        try simp only [Act.put, List.setIfInBounds_toArray, List.set_cons_zero, List.set_cons_succ]
        refine tk 4 29 (.int .i32 (k : Int)) BD.out ?y4 ?_
        case y4 =>
          intro w' hw'
          go_simp
        try simp only [Act.put, List.setIfInBounds_toArray, List.set_cons_zero, List.set_cons_succ]
        refine tk 5 30 (.pointer (some ⟨gx, k * 3, none⟩)) BD.out ?y5 ?_
        case y5 =>
          intro w' hw'
          go_simp
        try simp only [Act.put, List.setIfInBounds_toArray, List.set_cons_zero, List.set_cons_succ]
        refine tk 6 31 (.agg #[.int .i32 (n.v : Int), .int .i32 (n.a : Int), .int .i32 (n.b : Int)]) BD.out ?y6 ?_
        case y6 =>
          intro w' hw'
          have z0 := (World.cell?_of_block (a := ⟨gx, k * 3, none⟩) (hw' gx (by simp))).trans k0
          have z1 := (World.cell?_of_block (a := ⟨gx, k * 3 + 1, none⟩) (hw' gx (by simp))).trans k1
          have z2 := (World.cell?_of_block (a := ⟨gx, k * 3 + 2, none⟩) (hw' gx (by simp))).trans k2
          go_simp
        try simp only [Act.put, List.setIfInBounds_toArray, List.set_cons_zero, List.set_cons_succ]
        refine tk 7 32 (.slice (some ⟨bb, off, none⟩) is.length c) BD.out ?y7 ?_
        case y7 =>
          intro w' hw'
          go_simp
        try simp only [Act.put, List.setIfInBounds_toArray, List.set_cons_zero, List.set_cons_succ]
        refine tk 8 33 (.pointer (some ⟨g.s, 0, none⟩)) BD.out ?y8 ?_
        case y8 =>
          intro w' hw'
          go_simp
        try simp only [Act.put, List.setIfInBounds_toArray, List.set_cons_zero, List.set_cons_succ]
        refine tk 9 34 (.pointer (some ⟨g.s, 0, none⟩)) BD.out ?y9 ?_
        case y9 =>
          intro w' hw'
          go_simp
        try simp only [Act.put, List.setIfInBounds_toArray, List.set_cons_zero, List.set_cons_succ]
        refine tk 10 35 (.pointer (some ⟨g.s, 2, none⟩)) BD.out ?y10 ?_
        case y10 =>
          intro w' hw'
          go_simp
        try simp only [Act.put, List.setIfInBounds_toArray, List.set_cons_zero, List.set_cons_succ]
        refine tk 11 36 (.slice (some ⟨gx, 0, none⟩) g.ns.length c2) BD.out ?y11 ?_
        case y11 =>
          intro w' hw'
          have y0 := (World.cell?_of_block (a := ⟨g.s, 2, none⟩) (hw' _ (by simp))).trans s2
          go_simp
        try simp only [Act.put, List.setIfInBounds_toArray, List.set_cons_zero, List.set_cons_succ]
        refine tk 12 37 (.int .i32 (k : Int)) BD.out ?y12 ?_
        case y12 =>
          intro w' hw'
          go_simp
        try simp only [Act.put, List.setIfInBounds_toArray, List.set_cons_zero, List.set_cons_succ]
        refine tk 13 38 (.pointer (some ⟨gx, k * 3, none⟩)) BD.out ?y13 ?_
        case y13 =>
          intro w' hw'
          go_simp
        try simp only [Act.put, List.setIfInBounds_toArray, List.set_cons_zero, List.set_cons_succ]
        refine tk 14 39 (.pointer (some ⟨gx, k * 3, none⟩)) BD.out ?y14 ?_
        case y14 =>
          intro w' hw'
          go_simp
        try simp only [Act.put, List.setIfInBounds_toArray, List.set_cons_zero, List.set_cons_succ]
        refine tk 15 40 (.int .i32 (n.v : Int)) BD.out ?y15 ?_
        case y15 =>
          intro w' hw'
          have z0 := (World.cell?_of_block (a := ⟨gx, k * 3, none⟩) (hw' gx (by simp))).trans k0
          go_simp
        try simp only [Act.put, List.setIfInBounds_toArray, List.set_cons_zero, List.set_cons_succ]
        refine tk 16 41 (.pointer (some ⟨bb, off + n.v, none⟩)) BD.out ?y16 ?_
        case y16 =>
          intro w' hw'
          go_simp
        try simp only [Act.put, List.setIfInBounds_toArray, List.set_cons_zero, List.set_cons_succ]
        refine tk 17 42 (.bool x) BD.out ?y17 ?_
        case y17 =>
          intro w' hw'
          have y0 := (World.cell?_of_block (a := ⟨bb, off + n.v, none⟩) (hw' bb (by simp))).trans kb
          go_simp
        try simp only [Act.put, List.setIfInBounds_toArray, List.set_cons_zero, List.set_cons_succ]
        refine on 18 (fun K hK2 => ?_)
        go_simp
        have hle := leads_any n x (World.drew wr)
        unfold ndV at hle
        refine hle.mono ?_
        rintro e w3 ⟨rfl, hg⟩
        have HG3 := Lib.hid (show w1.grownBy w3 none from grown_trans HK.out.2.2 (grown_trans (grown_drewN wr 1) hg))
        clear hg hle
        refine hK2.out _ _ (fun h => absurd h (by decide)) ?_
        clear hK2 K
        try simp only [Act.put, List.setIfInBounds_toArray, List.set_cons_zero, List.set_cons_succ]
        refine tkM 19 8 (.int .i32 ((leadN n x : Nat) : Int)) ?y19 ?_
        case y19 =>
          intro w'
          go_simp
        try simp only [Act.put, List.setIfInBounds_toArray, List.set_cons_zero, List.set_cons_succ]
        refine dn ?_
        go_wp2
        go_roundw
        case rel => exact ⟨leadN n x, rfl, Lib.hid ⟨Nat.lt_trans HST.out.2 HK.out.1, HST.out.1.trans HK.out.2.1, HG3.out⟩⟩
        case measure => have := HST.out.2; simp [intOf]; omega
      · have HE := Lib.hid (show EvalPost w g (f : Int) is (.returned (.tuple #[.bool (((k : Nat) : Int) == 1), .int .i64 0])) wr from ⟨grown_trans HGA.out HK.out.2.2, by
          rw [if_pos HE1.out, if_pos HLEN.out]
          have h1 := HK.out.2.1
          rw [ev_end _ (by omega)] at h1
          simp only [Int.toNat_natCast]
          rw [← h1]
          have : (((k : Nat) : Int) == 1) = (k == 1) := by rw [Bool.eq_iff_iff]; simp; omega
          rw [this]⟩)
        have q1 : ¬ (k : Int) > 1 := by omega
        have q2 : (k : Int) ≤ 1 := by omega
        clear hK hk
        go_wp2
        go_ret2
        exact HE.out
  · have qn : (((is.length : Nat) : Int) != ((g.V : Nat) : Int)) = true := by simp; omega
    have HE := Lib.hid (show EvalPost w g (f : Int) is (.returned (.tuple #[.bool false, .int .i64 91])) (w.alloc (.cells #[.int .i64 (f : Int)] 3)) from ⟨grown_alloc _ _, by rw [if_pos e1, if_neg hlen]⟩)
    clear h hv e0 e1 hbd hlen
    go_enter Try.func13, Try.ntmps13
    go_wp2_with fail
    refine (HV.out).mono ?_
    rintro e w1 ⟨rfl, rfl⟩
    go_wp2
    go_ret2
    exact HE.out
theorem eval_any (h : StoreM M w o g) (f : Int) {bv : Value} {is : List Bool} (hb : Bools w bv is) (hil : is.length ≤ 1000000) : Calls Try.prog 13 #[.pointer (some ⟨g.s, 0, none⟩), .int .i64 f, bv] w (EvalPost w g f is) := by
  cases hv : okB g.ns.length f with
  | false => exact eval_bad h f hv hb
  | true =>
    obtain ⟨k, rfl, hk⟩ := okB_nat hv
    exact eval_good h k hk hb hil
end

end Go.Proofs.Ytailpphafoamfaa
namespace Go.Proofs.Ytailpphafoamfaa
open Go Go.RowKit Go.Maps


structure JoinOut (J : World → (Nat → Nat) → SG → DG → Prop) (R : List Nd → Nat → Nat → Prop) (c : Nat) (w : World) (o : Nat → Nat) (g : SG) (D : DG) (j r : Nat) (w' : World) (o' : Nat → Nat) (g' : SG) (D' : DG) : Prop where
  ds : DS w' o' g' D'
  j_ : J w' o' g' D'
  keep : Keep Tc w o w' o'
  ext : Ext g D g' D'
  lt : r < (lst g' D').length
  is : D'.full = true ∨ R (lst g' D') j r
  len : D'.ds.length ≤ D.ds.length + c
  W : g'.W ≤ g.W + c
def JoinPost (J : World → (Nat → Nat) → SG → DG → Prop) (R : List Nd → Nat → Nat → Prop) (c : Nat) (w : World) (o : Nat → Nat) (g : SG) (D : DG) (j : Nat) (e : Ending) (w' : World) : Prop :=
  ∃ (r : Nat) (o' : Nat → Nat) (g' : SG) (D' : DG), e = .returned (.int .i32 (r : Int)) ∧ JoinOut J R c w o g D j r w' o' g' D'
/-- What joins a node's variable and what became of those to which it leads. -/
structure JoinS (jf : FuncId) (k1 k2 k3 : Value) (J : World → (Nat → Nat) → SG → DG → Prop) (R : List Nd → Nat → Nat → Prop) (c : Nat) : Prop where
  enters : ∀ args w, (callFunc jf args).run Try.prog w = .ok (.enter jf args) w
  keeps : ∀ {T : Nat → Bool} {w w' : World} {o o' : Nat → Nat} {g : SG} {D : DG}, J w o g D → Keep T w o w' o' → T 0 = false → T 7 = false → J w' o' g D
  call : ∀ (w : World) (o : Nat → Nat) (g : SG) (D : DG) (j : Nat) (n : Nd) (x y : Nat), DS w o g D → J w o g D → 2 ≤ j → (lst g D)[j]? = some n → x < (lst g D).length → y < (lst g D).length → (D.full = true ∨ (R (lst g D) n.a x ∧ R (lst g D) n.b y)) →
    Calls Try.prog jf #[.int .i32 (n.v : Int), .int .i32 (x : Int), .int .i32 (y : Int), k1, k2, k3] w (JoinPost J R c w o g D j)
  mono : ∀ {V : Nat} {L K : List Nd} {j r : Nat}, WF V L → WF V (L ++ K) → j < L.length → r < L.length → R L j r → R (L ++ K) j r
  r0 : ∀ {V : Nat} {L : List Nd}, WF V L → R L 0 0
  r1 : ∀ {V : Nat} {L : List Nd}, WF V L → R L 1 1
structure REnv where
  b5 : Nat
  b2 : Nat
  b3 : Nat
  b6 : Nat
  bd : Nat
  jv : Value
def rebV (E : REnv) : Value := .func (.func 75) #[] #[.pointer (some ⟨E.b5, 0, none⟩), .pointer (some ⟨E.b2, 0, none⟩), .pointer (some ⟨E.b3, 0, none⟩), .pointer (some ⟨E.b6, 0, none⟩)]
structure RebAt (w : World) (o : Nat → Nat) (d : Nat) (E : REnv) (mp : Value → Option Value) : Prop where
  c5 : w.cell? ⟨E.b5, 0, none⟩ = some (.map (some E.bd))
  c2 : w.cell? ⟨E.b2, 0, none⟩ = some (.pointer (some ⟨d, 0, none⟩))
  c3 : w.cell? ⟨E.b3, 0, none⟩ = some E.jv
  c6 : w.cell? ⟨E.b6, 0, none⟩ = some (rebV E)
  o5 : o E.b5 = 0
  o2 : o E.b2 = 0
  o3 : o E.b3 = 0
  o6 : o E.b6 = 0
  od : o E.bd = 8
  map : MapIs 21 w E.bd mp
def Tr (t : Nat) : Bool := decide (1 ≤ t ∧ t ≤ 8)
theorem tr_of {T : Nat → Bool} (ht : ∀ t, T t = true → 1 ≤ t ∧ t ≤ 8) : ∀ t, Tr t = false → T t = false := fun t h => by
  cases hT : T t with
  | false => rfl
  | true =>
    have := ht t hT
    unfold Tr at h
    rw [decide_eq_true this] at h
    cases h
theorem tc_tr : ∀ t, Tr t = false → Tc t = false := tr_of fun t h => by unfold Tc at h; have := of_decide_eq_true h; omega
/-- What is done: each one is there, and right, unless the draft is full. -/
structure RDone (R : List Nd → Nat → Nat → Prop) (full : Bool) (L : List Nd) (mp : Value → Option Value) : Prop where
  z : mp (.int .i32 0) = some (.int .i32 0)
  o : mp (.int .i32 1) = some (.int .i32 1)
  al : ∀ v x, mp v = some x → ∃ k r : Nat, v = .int .i32 (k : Int) ∧ x = .int .i32 (r : Int) ∧ k < L.length ∧ r < L.length ∧ (full = true ∨ R L k r)
section
variable {jf : FuncId} {k1 k2 k3 : Value} {J : World → (Nat → Nat) → SG → DG → Prop} {R : List Nd → Nat → Nat → Prop} {c : Nat} {w w' : World} {o o' : Nat → Nat} {g g' : SG} {D D' : DG} {E : REnv} {d : Nat} {mp mp' : Value → Option Value}
theorem RebAt.keep {T : Nat → Bool} (h : RebAt w o d E mp) (k : Keep T w o w' o') (t0 : T 0 = false) (t8 : T 8 = false) : RebAt w' o' d E mp :=
  ⟨(k.box h.c5 h.o5 t0).1, (k.box h.c2 h.o2 t0).1, (k.box h.c3 h.o3 t0).1, (k.box h.c6 h.o6 t0).1, (k.box h.c5 h.o5 t0).2, (k.box h.c2 h.o2 t0).2, (k.box h.c3 h.o3 t0).2, (k.box h.c6 h.o6 t0).2, (k.own _ h.map.lt).trans h.od, h.map.move (k.blk _ h.map.lt (by rw [h.od]; exact t8))⟩
theorem RDone.app (S : JoinS jf k1 k2 k3 J R c) {L K : List Nd} {V : Nat} {f f' : Bool} (h : RDone R f L mp) (hw : WF V L) (hw' : WF V (L ++ K)) (hf : f = true → f' = true) : RDone R f' (L ++ K) mp :=
  ⟨h.z, h.o, fun v x hv => by
    obtain ⟨k, r, e1, e2, h1, h2, h3⟩ := h.al v x hv
    exact ⟨k, r, e1, e2, by simp; omega, by simp; omega, h3.imp hf (S.mono hw hw' h1 h2)⟩⟩
theorem Ext.rdone (S : JoinS jf k1 k2 k3 J R c) (e : Ext g D g' D') (h : DS w o g D) (h' : DS w' o' g' D') (hd : RDone R D.full (lst g D) mp) : RDone R D'.full (lst g' D') mp := by
  obtain ⟨K, hK, h1, h2⟩ := e.emore h h'
  rw [hK]; exact hd.app S h1 h2 e.full
theorem Ext.rmono (S : JoinS jf k1 k2 k3 J R c) (e : Ext g D g' D') (h : DS w o g D) (h' : DS w' o' g' D') {j r : Nat} (hj : j < (lst g D).length) (hr : r < (lst g D).length) (hR : R (lst g D) j r) : R (lst g' D') j r := by
  obtain ⟨K, hK, h1, h2⟩ := e.emore h h'
  rw [hK]; exact S.mono h1 h2 hj hr hR
structure RebOut (J : World → (Nat → Nat) → SG → DG → Prop) (R : List Nd → Nat → Nat → Prop) (c : Nat) (w : World) (o : Nat → Nat) (g : SG) (D : DG) (E : REnv) (j r : Nat) (w' : World) (o' : Nat → Nat) (g' : SG) (D' : DG) (mp' : Value → Option Value) : Prop where
  ds : DS w' o' g' D'
  j_ : J w' o' g' D'
  at_ : RebAt w' o' D.d E mp'
  dn : RDone R D'.full (lst g' D') mp'
  keep : Keep Tr w o w' o'
  ext : Ext g D g' D'
  lt : r < (lst g' D').length
  is : D'.full = true ∨ R (lst g' D') j r
  len : D'.ds.length + c ≤ D.ds.length + c * 2 ^ (g.V - ask (lst g D) j)
  W : g'.W + c ≤ g.W + c * 2 ^ (g.V - ask (lst g D) j)
def RebPost (J : World → (Nat → Nat) → SG → DG → Prop) (R : List Nd → Nat → Nat → Prop) (c : Nat) (w : World) (o : Nat → Nat) (g : SG) (D : DG) (E : REnv) (j : Nat) (e : Ending) (w' : World) : Prop :=
  ∃ (r : Nat) (o' : Nat → Nat) (g' : SG) (D' : DG) (mp' : Value → Option Value), e = .returned (.int .i32 (r : Int)) ∧ RebOut J R c w o g D E j r w' o' g' D' mp'
theorem RebOut.same (hs : DS w o g D) (hj : J w o g D) (ha : RebAt w o D.d E mp) (hd : RDone R D.full (lst g D) mp) {j r : Nat} (hr : r < (lst g D).length) (hi : D.full = true ∨ R (lst g D) j r) : RebOut J R c w o g D E j r w o g D mp :=
  ⟨hs, hj, ha, hd, Keep.refl _ _ _, Ext.refl _ _, hr, hi, Nat.add_le_add_left (Nat.le_mul_of_pos_right c (pow_pos' _)) _, Nat.add_le_add_left (Nat.le_mul_of_pos_right c (pow_pos' _)) _⟩
def RebC (J : World → (Nat → Nat) → SG → DG → Prop) (R : List Nd → Nat → Nat → Prop) (c : Nat) (jv : Value) (j : Nat) : Prop :=
  ∀ (w : World) (o : Nat → Nat) (g : SG) (D : DG) (E : REnv) (mp : Value → Option Value), DS w o g D → J w o g D → RebAt w o D.d E mp → E.jv = jv → RDone R D.full (lst g D) mp → j < (lst g D).length →
    Calls Try.prog 75 #[.int .i32 (j : Int), .pointer (some ⟨E.b5, 0, none⟩), .pointer (some ⟨E.b2, 0, none⟩), .pointer (some ⟨E.b3, 0, none⟩), .pointer (some ⟨E.b6, 0, none⟩)] w (RebPost J R c w o g D E j)
theorem mul_two {c V v a b : Nat} (hv : v < V) (ha : v < a) (hb : v < b) : c * 2 ^ (V - a) + c * 2 ^ (V - b) ≤ c * 2 ^ (V - v) := by
  rw [← Nat.mul_add]
  exact Nat.mul_le_mul_left c (pow_two hv ha hb)
/-- Both of those to which it leads, and the joining. -/
theorem reb_end (S : JoinS jf k1 k2 k3 J R c) {j x y r : Nat} {n : Nd} {wA wB wC w9 : World} {oA oB oC : Nat → Nat} {gA gB gC : SG} {DA DB DC : DG} {mA mB : Value → Option Value}
    (hs : DS w o g D) (h2 : 2 ≤ j) (hn : (lst g D)[j]? = some n) (c0 : RebOut J R c w o g D E n.a x wA oA gA DA mA) (c1 : RebOut J R c wA oA gA DA E n.b y wB oB gB DB mB) (cn : JoinOut J R c wB oB gB DB j r wC oC gC DC)
    (hm : MapIs 21 w9 E.bd (updV mB (.int .i32 (j : Int)) (.int .i32 (r : Int)))) (ht : wC.grownBy w9 (some E.bd)) : RebOut J R c w o g D E j r w9 oC gC DC (updV mB (.int .i32 (j : Int)) (.int .i32 (r : Int))) := by
  obtain ⟨a1, a2, a3, a4, a5, a6⟩ := hs.wf.nd j n h2 hn
  have hj := (List.getElem?_eq_some_iff.1 hn).1
  have ex1 := c0.ext.trans c1.ext
  have ex2 := ex1.trans cn.ext
  have dd : DA.d = D.d := c0.ext.d
  have aC := c1.at_.keep cn.keep rfl rfl
  have k9 : Keep (· == 8) wC oC w9 oC := Keep.grown ht (fun k e => by cases e; rw [aC.od]; rfl) (fun _ _ => rfl)
  have hVA : gA.V = g.V := c0.ext.V
  have hVB : gB.V = g.V := c1.ext.V.trans hVA
  have ds9 : DS w9 oC gC DC := ⟨cn.ds.st.keep k9 ⟨rfl, rfl, rfl⟩ (fun b hb => cn.ds.st.new b (Nat.le_trans ht.size hb)), cn.ds.dr.keep k9 ⟨rfl, rfl, rfl⟩⟩
  have ab : ask (lst gA DA) n.b = ask (lst g D) n.b := by
    obtain ⟨K, hK⟩ := c0.ext.ex
    rw [hK, ask_app (by omega)]
  have pw := mul_two (c := c) a1 a5 a6
  have hv := ask_at hn
  refine ⟨ds9, S.keeps cn.j_ k9 rfl rfl, ?_, ⟨?_, ?_, fun v z hz => ?_⟩, ((c0.keep.trans c1.keep).trans (cn.keep.more tc_tr)).trans (k9.more (tr_of fun t ht => by simp at ht; omega)), ex2, cn.lt, cn.is, ?_, ?_⟩
  · have a9 : ∀ {b : Nat} {x : Value}, wC.cell? ⟨b, 0, none⟩ = some x → oC b = 0 → w9.cell? ⟨b, 0, none⟩ = some x := fun {b x} hc ho => (k9.box hc ho rfl).1
    exact ⟨a9 aC.c5 aC.o5, by rw [← dd]; exact a9 aC.c2 aC.o2, a9 aC.c3 aC.o3, a9 aC.c6 aC.o6, aC.o5, aC.o2, aC.o3, aC.o6, aC.od, hm⟩
  · rw [updV_other _ _ (by simp; omega)]; exact c1.dn.z
  · rw [updV_other _ _ (by simp; omega)]; exact c1.dn.o
  · by_cases e : v = .int .i32 (j : Int)
    · rw [e, updV_same] at hz
      cases hz
      exact ⟨j, r, e, rfl, Nat.lt_of_lt_of_le hj ex2.len_le, cn.lt, cn.is⟩
    · rw [updV_other _ _ e] at hz
      exact (cn.ext.rdone S c1.ds cn.ds c1.dn).al v z hz
  · have q0 := c0.len
    have q1 := c1.len
    have q2 := cn.len
    rw [hVA, ab] at q1
    rw [hv]
    omega
  · have q0 := c0.W
    have q1 := c1.W
    have q2 := cn.W
    rw [hVA, ab] at q1
    rw [hv]
    omega
end

end Go.Proofs.Ytailpphafoamfaa
namespace Go.Proofs.Ytailpphafoamfaa
open Go Go.RowKit Go.Maps


section
variable {jf : FuncId} {k1 k2 k3 : Value} {J : World → (Nat → Nat) → SG → DG → Prop} {R : List Nd → Nat → Nat → Prop} {c : Nat} {w w' : World} {o o' : Nat → Nat} {g g' : SG} {D D' : DG} {E : REnv} {d : Nat} {mp mp' : Value → Option Value}
set_option maxHeartbeats 8000000 in
set_option maxRecDepth 100000 in
theorem reb_hit (S : JoinS jf k1 k2 k3 J R c) {j r : Nat} (hs : DS w o g D) (hj : J w o g D) (ha : RebAt w o D.d E mp) (hd : RDone R D.full (lst g D) mp) (hl : j < (lst g D).length) (hx : mp (.int .i32 (j : Int)) = some (.int .i32 (r : Int))) :
    Calls Try.prog 75 #[.int .i32 (j : Int), .pointer (some ⟨E.b5, 0, none⟩), .pointer (some ⟨E.b2, 0, none⟩), .pointer (some ⟨E.b3, 0, none⟩), .pointer (some ⟨E.b6, 0, none⟩)] w (RebPost J R c w o g D E j) := by
  have hlen := hs.len
  have hlk := ha.map.look K21 Try.underlying129 (z21 _) (isK21 (x := (j : Int)) (by omega))
  rw [hx] at hlk
  simp only [Option.getD_some, Option.isSome_some] at hlk
  have HR := Lib.hid (show RebPost J R c w o g D E j (.returned (.int .i32 (r : Int))) w from (by
    obtain ⟨k, r', e1, e2, h1, h2, h3⟩ := hd.al _ _ hx
    simp only [Value.int.injEq, true_and] at e1 e2
    have q1 : j = k := by omega
    have q2 : r = r' := by omega
    subst q1 q2
    exact ⟨r, o, g, D, mp, rfl, RebOut.same hs hj ha hd h2 h3⟩))
  have c5 := ha.c5
  clear hs hj ha hd hl hx hlen
  go_enter Try.func75, Try.ntmps75
  go_wp2
  go_ret
  exact HR.out
set_option maxHeartbeats 8000000 in
set_option maxRecDepth 100000 in
theorem reb_miss (S : JoinS jf k1 k2 k3 J R c) {j : Nat} (IH : ∀ k, k < j → RebC J R c (.func (.func jf) #[] #[k1, k2, k3]) k) (hs : DS w o g D) (hj : J w o g D) (ha : RebAt w o D.d E mp) (hjv : E.jv = .func (.func jf) #[] #[k1, k2, k3]) (hd : RDone R D.full (lst g D) mp) (hl : j < (lst g D).length) (hx : mp (.int .i32 (j : Int)) = none) :
    Calls Try.prog 75 #[.int .i32 (j : Int), .pointer (some ⟨E.b5, 0, none⟩), .pointer (some ⟨E.b2, 0, none⟩), .pointer (some ⟨E.b3, 0, none⟩), .pointer (some ⟨E.b6, 0, none⟩)] w (RebPost J R c w o g D E j) := by
  have hlen := hs.len
  have h2 : 2 ≤ j := by
    apply Classical.byContradiction
    intro hc
    rcases (by omega : j = 0 ∨ j = 1) with rfl | rfl
    · rw [show ((0 : Nat) : Int) = 0 from rfl, hd.z] at hx; cases hx
    · rw [show ((1 : Nat) : Int) = 1 from rfl, hd.o] at hx; cases hx
  have HISK := Lib.hid (isK21 (x := (j : Int)) (by omega))
  have hlk := ha.map.look K21 Try.underlying129 (z21 _) HISK.out
  rw [hx] at hlk
  simp only [Option.getD_none, Option.isSome_none] at hlk
  obtain ⟨n, hn⟩ := get_lt hl
  have HAT := Lib.hid (at_any hs.st hs.dr hn)
  have c5 := ha.c5
  have c2 := ha.c2
  have HS := Lib.hid hs
  have HJ := Lib.hid hj
  have HA := Lib.hid ha
  have HD := Lib.hid hd
  have HN := Lib.hid hn
  have H2 := Lib.hid h2
  have HIH := Lib.hid IH
  have HSS := Lib.hid S
  have HJV := Lib.hid hjv
  clear hs hj ha hjv hd hl hx hlen h2 hn IH S
  go_enter Try.func75, Try.ntmps75
  go_wp2_with fail
  refine (HAT.out).mono ?_
  rintro e w1 ⟨rfl, hg⟩
  unfold ndV
  have HG1 := Lib.hid hg
  clear hg hlk c5 c2
  go_wp2
  obtain ⟨N, hN⟩ : ∃ N, w1.heap.size = N := ⟨_, rfl⟩
  obtain ⟨wa, hwa⟩ : ∃ wa, w1.alloc (.cells #[.int .i32 (n.v : Int), .int .i32 (n.a : Int), .int .i32 (n.b : Int)] 63) = wa := ⟨_, rfl⟩
  have HGA := Lib.hid (show w.grownBy wa none from by rw [← hwa]; exact grown_trans HG1.out (grown_alloc _ _))
  have HY := Lib.hid (show wa.heap[N]? = some (.cells #[.int .i32 (n.v : Int), .int .i32 (n.a : Int), .int .i32 (n.b : Int)] 63 (0, 0)) from by rw [← hwa, ← hN]; exact (MapKept.heap_alloc w1 _).1)
  have HON := Lib.hid (show o N = 0 from HS.out.st.new N (by rw [← hN]; exact HG1.out.size))
  rw [hwa, hN]
  clear hwa hN
  have HSA := Lib.hid (HS.out.grown HGA.out)
  have HJA := Lib.hid (HSS.out.keeps HJ.out (keep_none (fun _ => false) o HGA.out) rfl rfl)
  have HAA := Lib.hid (HA.out.keep (keep_none (fun _ => false) o HGA.out) rfl rfl)
  have a3 := HAA.out.c3
  rw [HJV.out] at a3
  have a6 := HAA.out.c6
  unfold rebV at a6
  refine wp_region_T (S := fun w' => ∀ k ∈ [E.b3, E.b6, N], w'.heap[k]? = wa.heap[k]?) (tail := fun j => decide (11 ≤ j)) (by kernel_rfl) ?_
  change wpAnyT _ _ _ _ _ _ _ _ _ (World.drew wa)
  have BD := Lib.hid (show ∀ k ∈ [E.b3, E.b6, N], (World.drew wa).heap[k]? = wa.heap[k]? from fun _ _ => rfl)
  have HSD := Lib.hid HSA.out.drew
  have HJD := Lib.hid (HSS.out.keeps HJA.out (keep_drew (fun _ => false) wa o) rfl rfl)
  have HAD := Lib.hid (HAA.out.keep (keep_drew (fun _ => false) wa o) rfl rfl)
  have HGD := Lib.hid (show w.grownBy (World.drew wa) none from grown_trans HGA.out (grown_drewN wa 1))
  have HLT := Lib.hid (show ∀ k ∈ [E.b3, E.b6, N], k < (World.drew wa).heap.size ∧ o k = 0 from fun k hk => by
    simp at hk
    rcases hk with rfl | rfl | rfl
    · exact ⟨lt_cell a3, HAA.out.o3⟩
    · exact ⟨lt_cell a6, HAA.out.o6⟩
    · exact ⟨(Array.getElem?_eq_some_iff.1 HY.out).1, HON.out⟩)
  have HAB := Lib.hid (show n.a < j ∧ n.b < j ∧ j < (lst g D).length from by
    have h1 := HS.out.wf.nd j n H2.out HN.out
    exact ⟨h1.2.1, h1.2.2.1, (List.getElem?_eq_some_iff.1 HN.out).1⟩)
  refine tk 0 22 (.func (.func jf) #[] #[k1, k2, k3]) BD.out ?y0 ?_
  case y0 =>
    intro w' hw'
    have y0 := (World.cell?_of_block (a := ⟨E.b3, 0, none⟩) (hw' _ (by simp))).trans a3
    go_simp
  try simp only [Act.put, List.setIfInBounds_toArray, List.set_cons_zero, List.set_cons_succ]
  refine tk 1 23 (.pointer (some ⟨N, 0, none⟩)) BD.out ?y1 ?_
  case y1 =>
    intro w' hw'
    go_simp
  try simp only [Act.put, List.setIfInBounds_toArray, List.set_cons_zero, List.set_cons_succ]
  refine tk 2 24 (.int .i32 (n.v : Int)) BD.out ?y2 ?_
  case y2 =>
    intro w' hw'
    have y0 := (World.cell?_of_block (a := ⟨N, 0, none⟩) (hw' N (by simp))).trans (box_cells HY.out).1
    go_simp
  try simp only [Act.put, List.setIfInBounds_toArray, List.set_cons_zero, List.set_cons_succ]
  refine tk 3 25 (.func (.func 75) #[] #[.pointer (some ⟨E.b5, 0, none⟩), .pointer (some ⟨E.b2, 0, none⟩), .pointer (some ⟨E.b3, 0, none⟩), .pointer (some ⟨E.b6, 0, none⟩)]) BD.out ?y3 ?_
  case y3 =>
    intro w' hw'
    have y0 := (World.cell?_of_block (a := ⟨E.b6, 0, none⟩) (hw' _ (by simp))).trans a6
    go_simp
  try simp only [Act.put, List.setIfInBounds_toArray, List.set_cons_zero, List.set_cons_succ]
  refine tk 4 26 (.pointer (some ⟨N, 1, none⟩)) BD.out ?y4 ?_
  case y4 =>
    intro w' hw'
    go_simp
  try simp only [Act.put, List.setIfInBounds_toArray, List.set_cons_zero, List.set_cons_succ]
  refine tk 5 27 (.int .i32 (n.a : Int)) BD.out ?y5 ?_
  case y5 =>
    intro w' hw'
    have y0 := (World.cell?_of_block (a := ⟨N, 1, none⟩) (hw' N (by simp))).trans (box_cells HY.out).2.1
    go_simp
  try simp only [Act.put, List.setIfInBounds_toArray, List.set_cons_zero, List.set_cons_succ]
  refine tk 7 29 (.func (.func 75) #[] #[.pointer (some ⟨E.b5, 0, none⟩), .pointer (some ⟨E.b2, 0, none⟩), .pointer (some ⟨E.b3, 0, none⟩), .pointer (some ⟨E.b6, 0, none⟩)]) BD.out ?y7 ?_
  case y7 =>
    intro w' hw'
    have y0 := (World.cell?_of_block (a := ⟨E.b6, 0, none⟩) (hw' _ (by simp))).trans a6
    go_simp
  try simp only [Act.put, List.setIfInBounds_toArray, List.set_cons_zero, List.set_cons_succ]
  refine tk 8 30 (.pointer (some ⟨N, 2, none⟩)) BD.out ?y8 ?_
  case y8 =>
    intro w' hw'
    go_simp
  try simp only [Act.put, List.setIfInBounds_toArray, List.set_cons_zero, List.set_cons_succ]
  refine tk 9 31 (.int .i32 (n.b : Int)) BD.out ?y9 ?_
  case y9 =>
    intro w' hw'
    have y0 := (World.cell?_of_block (a := ⟨N, 2, none⟩) (hw' N (by simp))).trans (box_cells HY.out).2.2
    go_simp
  try simp only [Act.put, List.setIfInBounds_toArray, List.set_cons_zero, List.set_cons_succ]
  refine on 6 (fun K hK => ?_)
  go_simp
  refine (HIH.out n.a HAB.out.1 (World.drew wa) o g D E mp HSD.out HJD.out HAD.out HJV.out HD.out (Nat.lt_trans HAB.out.1 HAB.out.2.2)).mono ?_
  rintro e wA ⟨x, oA, gA, DA, mA, rfl, hA⟩
  have CA := Lib.hid hA
  have SA := Lib.hid (show ∀ k ∈ [E.b3, E.b6, N], wA.heap[k]? = wa.heap[k]? from fun k hk => (hA.keep.blk k (HLT.out k hk).1 (by rw [(HLT.out k hk).2]; rfl)).trans (BD.out k hk))
  clear hA
  refine hK.out _ _ (fun _ => SA.out) ?_
  clear hK K
  try simp only [Act.put, List.setIfInBounds_toArray, List.set_cons_zero, List.set_cons_succ]
  refine on 10 (fun K hK => ?_)
  go_simp
  refine (HIH.out n.b HAB.out.2.1 wA oA gA DA E mA CA.out.ds CA.out.j_ (by rw [CA.out.ext.d]; exact CA.out.at_) HJV.out CA.out.dn (Nat.lt_of_lt_of_le (Nat.lt_trans HAB.out.2.1 HAB.out.2.2) CA.out.ext.len_le)).mono ?_
  rintro e wB ⟨y, oB, gB, DB, mB, rfl, hB⟩
  have CB := Lib.hid hB
  have SB := Lib.hid (show ∀ k ∈ [E.b3, E.b6, N], wB.heap[k]? = wa.heap[k]? from fun k hk => (hB.keep.blk k (Nat.lt_of_lt_of_le (HLT.out k hk).1 CA.out.keep.size) (by rw [CA.out.keep.own k (HLT.out k hk).1, (HLT.out k hk).2]; rfl)).trans (SA.out k hk))
  clear hB
  refine hK.out _ _ (fun _ => SB.out) ?_
  clear hK K
  try simp only [Act.put, List.setIfInBounds_toArray, List.set_cons_zero, List.set_cons_succ]
  refine on 11 (fun K hK => ?_)
  have hje := HSS.out.enters
  go_simp
  have hjn := HSS.out.call wB oB gB DB j n x y CB.out.ds CB.out.j_ H2.out (by
    obtain ⟨K1, hK1⟩ := (CA.out.ext.trans CB.out.ext).ex
    rw [hK1, List.getElem?_append_left HAB.out.2.2]
    exact HN.out) (Nat.lt_of_lt_of_le CA.out.lt CB.out.ext.len_le) CB.out.lt (by
    cases hfu : DB.full with
    | true => exact .inl rfl
    | false =>
      right
      have hfa := full_false CB.out.ext hfu
      refine ⟨?_, CB.out.is.resolve_left (by rw [hfu]; simp)⟩
      exact CB.out.ext.rmono HSS.out CA.out.ds CB.out.ds (Nat.lt_of_lt_of_le (Nat.lt_trans HAB.out.1 HAB.out.2.2) CA.out.ext.len_le) CA.out.lt (CA.out.is.resolve_left (by rw [hfa]; simp)))
  refine hjn.mono ?_
  rintro e wC ⟨r, oC, gC, DC, rfl, hC⟩
  have CN := Lib.hid hC
  clear hC hjn hje
  refine hK.out _ _ (fun h => absurd h (by decide)) ?_
  clear hK K
  try simp only [Act.put, List.setIfInBounds_toArray, List.set_cons_zero, List.set_cons_succ]
  refine tkM 12 10 (.int .i32 (r : Int)) ?y12 ?_
  case y12 =>
    intro w'
    go_simp
  try simp only [Act.put, List.setIfInBounds_toArray, List.set_cons_zero, List.set_cons_succ]
  refine dn ?_
  have AC := Lib.hid (CB.out.at_.keep CN.out.keep rfl rfl)
  have c5' := AC.out.c5
  obtain ⟨w9, hrun, hm9, ht9⟩ := AC.out.map.store K21 Try.underlying129 HISK.out (.int .i32 (r : Int))
  have HR := Lib.hid (show RebPost J R c w o g D E j (.returned (.int .i32 (r : Int))) w9 from by
    have hc := reb_end HSS.out HSD.out H2.out HN.out CA.out CB.out CN.out hm9 ht9.grown
    exact ⟨r, oC, gC, DC, _, rfl, hc.ds, hc.j_, hc.at_, hc.dn, (keep_none _ o HGD.out).trans hc.keep, hc.ext, hc.lt, hc.is, hc.len, hc.W⟩)
  clear hm9 ht9
  go_wp2
  go_ret
  exact HR.out
theorem reb_any (S : JoinS jf k1 k2 k3 J R c) : ∀ j, RebC J R c (.func (.func jf) #[] #[k1, k2, k3]) j := by
  intro j
  induction j using Nat.strongRecOn with
  | ind j ih =>
    intro w o g D E mp hs hj ha hjv hd hl
    cases hx : mp (.int .i32 (j : Int)) with
    | none => exact reb_miss S ih hs hj ha hjv hd hl hx
    | some z =>
      obtain ⟨k, r, -, rfl, -⟩ := hd.al _ _ hx
      exact reb_hit S hs hj ha hd hl hx
end

end Go.Proofs.Ytailpphafoamfaa
namespace Go.Proofs.Ytailpphafoamfaa
open Go Go.RowKit Go.Maps

section
variable {jf : FuncId} {k1 k2 k3 : Value} {J : World → (Nat → Nat) → SG → DG → Prop} {R : List Nd → Nat → Nat → Prop} {c : Nat} {w w' : World} {o o' : Nat → Nat} {g g' : SG} {D D' : DG} {E : REnv} {d : Nat} {mp mp' : Value → Option Value}
noncomputable def mp01 : Value → Option Value := updV (updV (fun _ => none) (.int .i32 0) (.int .i32 0)) (.int .i32 1) (.int .i32 1)
theorem rdone_start (S : JoinS jf k1 k2 k3 J R c) {V : Nat} {L : List Nd} (hw : WF V L) (full : Bool) : RDone R full L mp01 := by
  have h2 := hw.two
  refine ⟨?_, updV_same _ _ _, fun v x hv => ?_⟩
  · unfold mp01
    rw [updV_other _ _ (by simp), updV_same]
  · unfold mp01 at hv
    by_cases e1 : v = .int .i32 1
    · rw [e1, updV_same] at hv
      cases hv
      exact ⟨1, 1, e1, rfl, by omega, by omega, .inr (S.r1 hw)⟩
    · rw [updV_other _ _ e1] at hv
      by_cases e0 : v = .int .i32 0
      · rw [e0, updV_same] at hv
        cases hv
        exact ⟨0, 0, e0, rfl, by omega, by omega, .inr (S.r0 hw)⟩
      · rw [updV_other _ _ e0] at hv
        cases hv
theorem turned_size {w w' : World} {b : Nat} (h : w.mapTurned w' b) : w'.heap.size = w.heap.size := by
  obtain ⟨es, cl, es', cl', h1, rfl⟩ := h
  simp [ChangeMaps.setBlock]
def RebuilderPost (w : World) (o : Nat → Nat) (g : SG) (D : DG) (jv : Value) (e : Ending) (w' : World) : Prop :=
  ∃ E o', e = .returned (rebV E) ∧ E.jv = jv ∧ DS w' o' g D ∧ RebAt w' o' D.d E mp01 ∧ Keep (fun _ => false) w o w' o'
/-- The world ahead of the rebuilder's boxes is as it was but for what is new. -/
theorem rebuilder_new (hs : DS w o g D) (jv x : Value) {w3 w5 : World} (hw3 : w3 = ((w.alloc (.cells #[.pointer (some ⟨D.d, 0, none⟩)] 94)).alloc (.cells #[jv] 100)).alloc (.map #[] 0)) (hg : w3.grownBy w5 (some (w.heap.size + 1 + 1))) (hz : w5.heap.size = w3.heap.size) (hm : MapIs 21 w5 (w.heap.size + 1 + 1) mp01)
    (hx : x = rebV ⟨w5.heap.size, w.heap.size, w.heap.size + 1, w5.heap.size + 1, w.heap.size + 1 + 1, jv⟩) : RebuilderPost w o g D jv (.returned x) ((w5.alloc (.cells #[.map (some (w.heap.size + 1 + 1))] 129)).alloc (.cells #[x] 97)) := by
  have e3 : w3.heap.size = w.heap.size + 3 := by rw [hw3]; simp
  have s1 : ∀ (w : World) (x : Obj), (w.alloc x).heap = w.heap.push x := fun _ _ => rfl
  have h0 : w3.heap[w.heap.size]? = some (.cells #[.pointer (some ⟨D.d, 0, none⟩)] 94 (0, 0)) := by
    rw [hw3]
    simp only [s1, Array.size_push, Array.getElem?_push]
    rw [if_neg (by omega), if_neg (by omega), if_pos trivial]
  have h1 : w3.heap[w.heap.size + 1]? = some (.cells #[jv] 100 (0, 0)) := by
    rw [hw3]
    simp only [s1, Array.size_push, Array.getElem?_push]
    rw [if_neg (by omega), if_pos trivial]
  have hg0 : w.grownBy w3 none := by rw [hw3]; exact grown_trans (grown_trans (grown_alloc _ _) (grown_alloc _ _)) (grown_alloc _ _)
  have hg5 : w.grownBy w5 none := grown_out hg0 hg (by omega)
  obtain ⟨wz, hwz⟩ : ∃ wz, (w5.alloc (.cells #[.map (some (w.heap.size + 1 + 1))] 129)).alloc (.cells #[x] 97) = wz := ⟨_, rfl⟩
  have hg6 : w5.grownBy wz none := by rw [← hwz]; exact grown_trans (grown_alloc _ _) (grown_alloc _ _)
  have h5 : wz.heap[w5.heap.size]? = some (.cells #[.map (some (w.heap.size + 1 + 1))] 129 (0, 0)) := by
    rw [← hwz, heap_alloc_old (by simp)]
    exact (MapKept.heap_alloc w5 _).1
  have h6 : wz.heap[w5.heap.size + 1]? = some (.cells #[x] 97 (0, 0)) := by
    have := (MapKept.heap_alloc (w5.alloc (.cells #[.map (some (w.heap.size + 1 + 1))] 129)) (.cells #[x] 97)).1
    have e : (w5.alloc (.cells #[.map (some (w.heap.size + 1 + 1))] 129)).heap.size = w5.heap.size + 1 := by simp
    rw [e, hwz] at this
    exact this
  have hsz : wz.heap.size = w5.heap.size + 2 := by rw [← hwz]; simp
  rw [hwz]
  have hk : Keep (fun _ => false) w o wz (ownG o (w.heap.size + 1 + 1) 8) := Keep.grown (grown_trans hg5 hg6) (by simp) (fun k hk => ownG_other _ _ (by omega))
  have ho := hs.st.new
  have cc : ∀ (b : Nat) (v : Value) (t : TypeId), wz.heap[b]? = some (.cells #[v] t (0, 0)) → wz.cell? ⟨b, 0, none⟩ = some v := fun b v t h => (cell_of h).trans rfl
  have b0 : wz.heap[w.heap.size]? = some (.cells #[.pointer (some ⟨D.d, 0, none⟩)] 94 (0, 0)) := (grown_far hg6 (by omega)).trans ((hg.block _ (by omega) (by simp only [ne_eq, Option.some.injEq]; omega)).trans h0)
  have b1 : wz.heap[w.heap.size + 1]? = some (.cells #[jv] 100 (0, 0)) := (grown_far hg6 (by omega)).trans ((hg.block _ (by omega) (by simp only [ne_eq, Option.some.injEq]; omega)).trans h1)
  refine ⟨⟨w5.heap.size, w.heap.size, w.heap.size + 1, w5.heap.size + 1, w.heap.size + 1 + 1, jv⟩, _, by rw [hx], rfl, ⟨hs.st.keep hk ⟨rfl, rfl, rfl⟩ (fun b hb => ?_), hs.dr.keep hk ⟨rfl, rfl, rfl⟩⟩, ⟨cc _ _ _ h5, cc _ _ _ b0, cc _ _ _ b1, (cc _ _ _ h6).trans (by rw [hx]), ?_, ?_, ?_, ?_, ownG_same _ _ _, hm.move (grown_far hg6 hm.lt)⟩, hk⟩
  · rw [ownG_other _ _ (by omega)]
    exact ho b (by omega)
  · show ownG o _ 8 w5.heap.size = 0
    rw [ownG_other _ _ (by omega)]; exact ho _ (by omega)
  · show ownG o _ 8 w.heap.size = 0
    rw [ownG_other _ _ (by omega)]; exact ho _ (Nat.le_refl _)
  · show ownG o _ 8 (w.heap.size + 1) = 0
    rw [ownG_other _ _ (by omega)]; exact ho _ (by omega)
  · show ownG o _ 8 (w5.heap.size + 1) = 0
    rw [ownG_other _ _ (by omega)]; exact ho _ (by omega)
set_option maxHeartbeats 8000000 in
set_option maxRecDepth 100000 in
theorem rebuilder_any (hs : DS w o g D) (jf : FuncId) (k1 k2 k3 : Value) : Calls Try.prog 63 #[.pointer (some ⟨D.d, 0, none⟩), .func (.func jf) #[] #[k1, k2, k3]] w (RebuilderPost w o g D (.func (.func jf) #[] #[k1, k2, k3])) := by
  have hmm := @run_makeMap Try.prog
  have hmf : ∀ (fn : Fn) (first cap : Array Value) (w : World), (Instr.makeFunc fn first cap).run Try.prog w = .ok (.func fn first cap) w := fun _ _ _ _ => rfl
  obtain ⟨w3, hw3⟩ : ∃ w3, w3 = ((w.alloc (.cells #[.pointer (some ⟨D.d, 0, none⟩)] 94)).alloc (.cells #[.func (.func jf) #[] #[k1, k2, k3]] 100)).alloc (.map #[] 0) := ⟨_, rfl⟩
  have hm0 : MapIs 21 w3 (w.heap.size + 1 + 1) (fun _ => none) := by
    have := MapIs.made (k := 21) ((w.alloc (.cells #[.pointer (some ⟨D.d, 0, none⟩)] 94)).alloc (.cells #[.func (.func jf) #[] #[k1, k2, k3]] 100))
    rw [← hw3] at this
    have e : ((w.alloc (.cells #[.pointer (some ⟨D.d, 0, none⟩)] 94)).alloc (.cells #[.func (.func jf) #[] #[k1, k2, k3]] 100)).heap.size = w.heap.size + 1 + 1 := by simp
    rw [e] at this
    exact this
  obtain ⟨w4, hr4, hm4, ht4⟩ := hm0.store K21 Try.underlying129 (isK21 (x := 0) (by omega)) (.int .i32 0)
  obtain ⟨w5, hr5, hm5, ht5⟩ := hm4.store K21 Try.underlying129 (isK21 (x := 1) (by omega)) (.int .i32 1)
  have HNEW := Lib.hid (rebuilder_new hs (.func (.func jf) #[] #[k1, k2, k3]) _ hw3 (grown_trans ht4.grown ht5.grown) ((turned_size ht5).trans (turned_size ht4)) hm5 rfl)
  have hc : ((w5.alloc (.cells #[.map (some (w.heap.size + 1 + 1))] 129)).alloc (.cells #[.nilFunc] 97)).cell? ⟨w5.heap.size + 1, 0, none⟩ = some .nilFunc := by
    have := (MapKept.heap_alloc (w5.alloc (.cells #[.map (some (w.heap.size + 1 + 1))] 129)) (.cells #[.nilFunc] 97)).1
    have e : (w5.alloc (.cells #[.map (some (w.heap.size + 1 + 1))] 129)).heap.size = w5.heap.size + 1 := by simp
    rw [e] at this
    exact (cell_of this).trans rfl
  have hz : ((w5.alloc (.cells #[.map (some (w.heap.size + 1 + 1))] 129)).alloc (.cells #[.nilFunc] 97)).frozen? ⟨w5.heap.size + 1, 0, none⟩ = false := by
    have := (MapKept.heap_alloc (w5.alloc (.cells #[.map (some (w.heap.size + 1 + 1))] 129)) (.cells #[.nilFunc] 97)).1
    have e : (w5.alloc (.cells #[.map (some (w.heap.size + 1 + 1))] 129)).heap.size = w5.heap.size + 1 := by simp
    rw [e] at this
    exact frz_of this
  rw [hw3] at hr4
  clear hs hw3 hm0 hm4 ht4 hm5 ht5
  unfold rebV at HNEW
  go_enter Try.func63, Try.ntmps63
  go_wp2
  go_ret
  exact HNEW.out
end
end Go.Proofs.Ytailpphafoamfaa
