/- The mathematics of unit propagation: what is derived, what is closed, and what follows of it. -/
namespace Go.Proofs.YtpfoaaiedfidbaaGreatDoor

/-- The smaller of the facts of a clause list: whatever follows one by one from the told literals. -/
inductive Der (l : List (List Int)) (is : List Int) : Int → Prop
  | told {n : Int} : n ∈ is → Der l is n
  | unit {c : List Int} {n : Int} : c ∈ l → n ∈ c → (∀ m ∈ c, m ≠ n → Der l is (-m)) → Der l is n
def Closed (l : List (List Int)) (T : List Int) : Prop :=
  ∀ c ∈ l, (∃ m ∈ c, m ∈ T) ∨ ∃ m1 ∈ c, ∃ m2 ∈ c, m1 ≠ m2 ∧ -m1 ∉ T ∧ -m2 ∉ T
def Cons (T : List Int) : Prop := ∀ n ∈ T, -n ∉ T
def Rising (T : List Int) : Prop := T.Pairwise (· < ·)
structure SpreadOk (l : List (List Int)) (is a : List Int) : Prop where
  up : Rising a
  has : ∀ n ∈ is, n ∈ a
  der : ∀ n ∈ a, Der l is n
  shut : Closed l a
  cons : Cons a
def SpreadNo (l : List (List Int)) (is : List Int) : Prop := (∃ n ∈ is, -n ∈ is) ∨ ∃ c ∈ l, ∀ m ∈ c, Der l is (-m)

/-- Whatever is consistent, closed and holds what was told holds what is derived. -/
theorem der_sub {l : List (List Int)} {is b : List Int} (hs : ∀ n ∈ is, n ∈ b) (hc : Closed l b) (hk : Cons b) {n : Int} (h : Der l is n) : n ∈ b := by
  induction h with
  | told h => exact hs _ h
  | @unit c n hc1 hn _ ih =>
    rcases hc c hc1 with ⟨m, hm, hmb⟩ | ⟨m1, h1, m2, h2, hne, g1, g2⟩
    · by_cases e : m = n
      · exact e ▸ hmb
      · exact absurd (ih m hm e) (hk m hmb)
    · by_cases e1 : m1 = n
      · have e2 : m2 ≠ n := fun e => hne (e1.trans e.symm)
        exact absurd (ih m2 h2 e2) g2
      · exact absurd (ih m1 h1 e1) g1
theorem no_of_ok {l : List (List Int)} {is b : List Int} (hs : ∀ n ∈ is, n ∈ b) (hc : Closed l b) (hk : Cons b) : ¬ SpreadNo l is := by
  rintro (⟨n, h1, h2⟩ | ⟨c, h1, h2⟩)
  · exact hk n (hs _ h1) (hs _ h2)
  · rcases hc c h1 with ⟨m, hm, hmb⟩ | ⟨m1, g1, m2, g2, hne, g3, g4⟩
    · exact hk m hmb (der_sub hs hc hk (h2 m hm))
    · exact g3 (der_sub hs hc hk (h2 m1 g1))
theorem SpreadOk.sub {l : List (List Int)} {is js a b : List Int} (h1 : SpreadOk l is a) (h2 : SpreadOk l js b) (hs : ∀ n ∈ is, n ∈ js) : ∀ n ∈ a, n ∈ b :=
  fun n hn => der_sub (fun m hm => h2.has m (hs m hm)) h2.shut h2.cons (h1.der n hn)
theorem SpreadNo.mono {l : List (List Int)} {is js b : List Int} (h1 : SpreadNo l is) (hs : ∀ n ∈ is, n ∈ js) (h2 : SpreadOk l js b) : False :=
  no_of_ok (fun m hm => h2.has m (hs m hm)) h2.shut h2.cons h1
/-- Two rising lists of the same numbers are one list. -/
theorem rising_ext : ∀ {a b : List Int}, Rising a → Rising b → (∀ n, n ∈ a ↔ n ∈ b) → a = b
  | [], [], _, _, _ => rfl
  | [], y :: b, _, _, h => by have := (h y).2 (by simp); simp at this
  | x :: a, [], _, _, h => by have := (h x).1 (by simp); simp at this
  | x :: a, y :: b, ha, hb, h => by
    have ha' := List.pairwise_cons.1 ha
    have hb' := List.pairwise_cons.1 hb
    have e : x = y := by
      have h1 := (h x).1 (by simp)
      have h2 := (h y).2 (by simp)
      rw [List.mem_cons] at h1 h2
      rcases h1 with h1 | h1
      · exact h1
      · rcases h2 with h2 | h2
        · exact h2.symm
        · have := hb'.1 x h1
          have := ha'.1 y h2
          omega
    subst e
    rw [rising_ext ha'.2 hb'.2 (fun n => by
      constructor
      · intro hn
        have := (h n).1 (by simp [hn])
        rw [List.mem_cons] at this
        rcases this with e | e
        · have := ha'.1 n hn; omega
        · exact e
      · intro hn
        have := (h n).2 (by simp [hn])
        rw [List.mem_cons] at this
        rcases this with e | e
        · have := hb'.1 n hn; omega
        · exact e)]
theorem SpreadOk.unique {l : List (List Int)} {is a b : List Int} (h1 : SpreadOk l is a) (h2 : SpreadOk l is b) : a = b :=
  rising_ext h1.up h2.up fun n => ⟨h1.sub h2 (fun _ h => h) n, h2.sub h1 (fun _ h => h) n⟩
/-- What has spread spreads no further. -/
theorem SpreadOk.again {l : List (List Int)} {is a c : List Int} (h1 : SpreadOk l is a) (h2 : SpreadOk l a c) : c = a :=
  rising_ext h2.up h1.up fun n => ⟨fun h => der_sub (fun _ h => h) h1.shut h1.cons (h2.der n h), h2.has n⟩
theorem SpreadOk.again_no {l : List (List Int)} {is a : List Int} (h1 : SpreadOk l is a) : ¬ SpreadNo l a := no_of_ok (fun _ h => h) h1.shut h1.cons
/-- What is derived is true wherever the clauses hold and what was told is true. -/
def HoldsL (l : List (List Int)) (M : List Int) : Prop := ∀ c ∈ l, ∃ m ∈ c, m ∈ M
theorem der_true {l : List (List Int)} {is M : List Int} (hM : HoldsL l M) (hs : ∀ n ∈ is, n ∈ M) (hk : Cons M) {n : Int} (h : Der l is n) : n ∈ M :=
  der_sub hs (fun c hc => .inl (hM c hc)) hk h
theorem no_model {l : List (List Int)} {is M : List Int} (hM : HoldsL l M) (hs : ∀ n ∈ is, n ∈ M) (hk : Cons M) : ¬ SpreadNo l is :=
  no_of_ok hs (fun c hc => .inl (hM c hc)) hk
end Go.Proofs.YtpfoaaiedfidbaaGreatDoor
