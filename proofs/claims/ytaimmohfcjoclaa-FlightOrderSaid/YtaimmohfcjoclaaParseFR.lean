/-
  Contract of the document's own Parse of a flight.
-/
import Derived.Test.YtaimmohfcjoclaaParseF
import Derived.Test.YtaimmohfcjoclaaStr
namespace Go.Proofs.Ytaimmohfcjoclaa
open Go.RowKit

theorem chain5 {a b c d e : Bool} (h : (a && (b && (c && (d && e)))) = false) : a = false ∨ (a = true ∧ b = false) ∨ (a = true ∧ b = true ∧ c = false) ∨ (a = true ∧ b = true ∧ c = true ∧ d = false) ∨ (a = true ∧ b = true ∧ c = true ∧ d = true ∧ e = false) := by
  cases a <;> cases b <;> cases c <;> cases d <;> cases e <;> simp_all
theorem ne_dec {x y : Int} {a : Bool} (h : decide (x = y) = a) : (x != y) = !a := by
  rw [← h]; by_cases e : x = y <;> simp [e]
/-- Only digits. -/
def digB (s : ByteArray) : Bool := allDig s.data.toList
theorem dall_any (s : ByteArray) (w : World) (hs : s.size ≤ maxLen) :
    Calls Try.prog 59 #[.string s] w fun e w' => e = .returned (.bool (digB s)) ∧ w = w' := all_any s w hs

theorem PF.begin (w : World) (m : Nat) (c : ByteArray) (n : Int) (x : ByteArray) (d : Int) (t u : TypeId) :
    PF w (((w.alloc (.cells #[.string ⟨#[]⟩, .int .i64 0, .string ⟨#[]⟩, .int .i64 0] u)).drewN m).alloc (.cells #[.string c, .int .i64 n, .string x, .int .i64 d] t)) (w.heap.size + 1) c n x d := by
  refine ⟨(draws ((Below.refl _ _).alloc (Nat.le_refl _) _) _).alloc (by simp) _, by omega, by simp, ⟨?_, ?_, ?_, ?_⟩, ⟨?_, ?_, ?_, ?_⟩, ⟨?_, ?_, ?_, ?_⟩, ⟨?_, ?_⟩⟩
  all_goals simp [go_sem]
  all_goals rfl

set_option maxHeartbeats 1000000 in
theorem rfparse_size (s : ByteArray) (w : World) (h : s.size ≠ 9 ∧ s.size ≠ 10) :
    Calls Try.prog 43 #[.string s] w (ParsedF s w) := by
  have hf : fForm s = false := by unfold fForm; rw [decide_eq_false (by omega)]; rfl
  have H := Lib.hid (f_no hf)
  have i1 : ((s.size : Int) != 9) = true := by rw [bne_iff_ne]; omega
  have i2 : ((s.size : Int) != 10) = true := by rw [bne_iff_ne]; omega
  clear hf h
  go_enter Try.func43, Try.ntmps43
  go_wp2
  go_returns
  exact ParsedF.mk H.out ((Below.refl _ _).alloc (Nat.le_refl _) _)

theorem form9 {s : ByteArray} (hz : s.size = 9) : fForm s = (decide (bat s 6 = 47) && (carB (s.extract 0 2) && (digB (s.extract 2 6) && (sufB (ByteArray.empty) && digB (s.extract 7 s.size))))) := by
  unfold fForm
  rw [decide_eq_true (by omega), Bool.true_and, show s.size - 3 = 6 by omega, show s.size - 2 = 7 by omega, show s.extract 6 6 = ByteArray.empty by simp]
  rfl
theorem fS0_9 {s : ByteArray} (hz : s.size = 9) : fS0 s = ByteArray.empty := by unfold fS0; rw [show s.size - 3 = 6 by omega]; simp
theorem fD0_9 {s : ByteArray} (hz : s.size = 9) : fD0 s = valN (s.extract 7 s.size).data.toList := by unfold fD0; rw [show s.size - 2 = 7 by omega]

set_option maxHeartbeats 1000000 in
theorem rfparse_bad9 (s : ByteArray) (w : World) (hz : s.size = 9) (hf : fForm s = false) :
    Calls Try.prog 43 #[.string s] w (ParsedF s w) := by
  have H := Lib.hid (f_no hf)
  rw [form9 hz] at hf
  have i1 : (s.size : Int) = 9 := by omega
  have p0 : 6 < s.size := by omega
  have he : sufB ByteArray.empty = true := by simp [sufB]
  have zA : (s.extract 2 6).size ≤ maxLen := by rw [size_ext]; unfold maxLen; omega
  have zB : (s.extract 7 s.size).size ≤ maxLen := by rw [size_ext]; unfold maxLen; omega
  rw [← bat_at s 6 p0] at hf
  clear hz
  rcases chain5 hf with h0 | ⟨h0, h1⟩ | ⟨h0, h1, h2⟩ | ⟨h0, h1, h2, h3⟩ | ⟨h0, h1, h2, h3, h4⟩
  · have q := ne_dec h0
    clear hf h0
    simp only [Bool.not_false] at q
    go_enter Try.func43, Try.ntmps43
    go_wp2
    go_returns
    exact ParsedF.mk H.out ((Below.refl _ _).alloc (Nat.le_refl _) _)
  all_goals try exact absurd (he.symm.trans h3) (by decide)
  all_goals
    have q := ne_dec h0
    clear hf h0
    simp only [Bool.not_true] at q
    go_enter Try.func43, Try.ntmps43
    go_wp2_with (first
      | (go_at_call 70; refine (rcarrier_any _ _).mono ?_; rintro e w2 ⟨rfl, m2, rfl⟩)
      | (go_at_call 59; refine (dall_any _ _ (by first | exact zA | exact zB)).mono ?_; rintro e w2 ⟨rfl, rfl⟩)
      | (go_at_call 71; refine (rsuffix_any _ _).mono ?_; rintro e w2 ⟨rfl, rfl⟩))
    refine bodyPost_ret (v := .tuple #[.agg #[.string ByteArray.empty, .int .i64 0, .string ByteArray.empty, .int .i64 0], .int .i64 3]) (by simp [results, go_sem]; rfl) rfl ?_
    exact ParsedF.mk H.out (Below.set4 (draws ((Below.refl _ _).alloc (Nat.le_refl _) _) _) (Nat.le_refl _) _ _ _ _)

set_option maxHeartbeats 2000000 in
theorem rfparse_good9 (s : ByteArray) (w : World) (hz : s.size = 9) (hf : fForm s = true) :
    Calls Try.prog 43 #[.string s] w (ParsedF s w) := by
  have hff := hf
  rw [form9 hz] at hf
  simp only [Bool.and_eq_true, decide_eq_true_eq] at hf
  obtain ⟨h0, h1, h2, h3, h4⟩ := hf
  have hA : ∀ W, Calls Try.prog 60 #[.string (s.extract 2 6)] W fun e w' => e = .returned (.int .i64 (fN0 s)) ∧ W = w' := fun W => rvalue_any _ W (by rw [size_ext]; omega) h2
  have hB : ∀ W, Calls Try.prog 60 #[.string (s.extract 7 s.size)] W fun e w' => e = .returned (.int .i64 (fD0 s)) ∧ W = w' := fun W => by rw [fD0_9 hz]; exact rvalue_any _ W (by rw [size_ext]; omega) h4
  have HA := hide hA
  have HB := hide hB
  clear hA hB
  have p0 : 6 < s.size := by omega
  have i1 : (s.size : Int) = 9 := by omega
  have j2 : (2 : Int) ≤ (s.size : Int) := by omega
  have j6 : (6 : Int) ≤ (s.size : Int) := by omega
  have jm : (6 : Int) ≤ (s.size : Int) := by omega
  have jn : (7 : Int) ≤ (s.size : Int) := by omega
  have he : sufB ByteArray.empty = true := by simp [sufB]
  have r1 : IntKind.i64.wrap 6 = 6 := by decide
  have r2 : IntKind.i64.wrap 7 = 7 := by decide
  have zA : (s.extract 2 6).size ≤ maxLen := by rw [size_ext]; unfold maxLen; omega
  have zB : (s.extract 7 s.size).size ≤ maxLen := by rw [size_ext]; unfold maxLen; omega
  rw [← bat_at s 6 p0] at h0
  have q : ((s[6].toNat : Int) != 47) = false := by rw [bne_eq_false_iff_eq]; exact h0
  have eS := Lib.hid (fS0_9 hz)
  have HZ := Lib.hid hz
  have HF := Lib.hid hff
  clear h0 hz hff
  go_enter Try.func43, Try.ntmps43
  go_wp2_with (first
    | (go_at_call 70; refine (rcarrier_any _ _).mono ?_; rintro e w2 ⟨rfl, m2, rfl⟩)
    | (go_at_call 59; refine (dall_any _ _ (by first | exact zA | exact zB)).mono ?_; rintro e w2 ⟨rfl, rfl⟩)
    | (go_at_call 71; refine (rsuffix_any _ _).mono ?_; rintro e w2 ⟨rfl, rfl⟩))
  go_region_held3 (fun _ => True) (trivial)
      (first | (go_at_call 60; (first | ((with_reducible refine (unhide HA _).mono ?_); rintro e w1 ⟨rfl, rfl⟩) | ((with_reducible refine (unhide HB _).mono ?_); rintro e w1 ⟨rfl, rfl⟩))))
  all_goals
    have P := PF.begin w (m2 + 1) (s.extract 0 2) (fN0 s) (ByteArray.empty) (fD0 s) 53 53
    generalize ((w.alloc (.cells #[.string ⟨#[]⟩, .int .i64 0, .string ⟨#[]⟩, .int .i64 0] 53)).drewN (m2 + 1)).alloc (.cells #[.string (s.extract 0 2), .int .i64 (fN0 s), .string (ByteArray.empty), .int .i64 (fD0 s)] 53) = V at *
    clear HA HB h1 h2 h3 h4 zA zB q p0 jm jn j2 j6 r1 r2
    obtain ⟨hb, _, _, ⟨c0, c1, c2, c3⟩, ⟨f0, f1, f2, f3⟩, ⟨k0, k1, k2, k3⟩, _⟩ := P
    have HB1 := Lib.hid hb
    clear hb
    by_cases hn : fN0 s = 0
    · have hb : (fN0 s == 0) = true := by rw [beq_iff_eq]; exact hn
      have H := Lib.hid (f_range HF.out hn)
      clear hn
      go_wp2
      refine bodyPost_ret (v := .tuple #[.agg #[.string ByteArray.empty, .int .i64 0, .string ByteArray.empty, .int .i64 0], .int .i64 1]) (by simp [results, go_sem, c0, c1, c2, c3]; rfl) rfl ?_
      exact ParsedF.mk H.out (Below.set4 HB1.out (Nat.le_refl _) _ _ _ _)
    · have hb : (fN0 s == 0) = false := by rw [beq_eq_false_iff_ne]; exact hn
      have H := Lib.hid (f_yes HF.out hn)
      clear hn
      go_wp2
      refine bodyPost_ret (v := .tuple #[.agg #[.string (s.extract 0 2), .int .i64 (fN0 s), .string (ByteArray.empty), .int .i64 (fD0 s)], .int .i64 0]) (by simp [results, go_sem, c0, c1, c2, c3]) rfl ?_
      obtain ⟨y0, y1, y2, y3, y4⟩ := H.out
      exact ParsedF.mk ⟨y0, y1, y2.trans eS.out, y3, y4⟩ (Below.set4 HB1.out (Nat.le_refl _) _ _ _ _)

theorem form10 {s : ByteArray} (hz : s.size = 10) : fForm s = (decide (bat s 7 = 47) && (carB (s.extract 0 2) && (digB (s.extract 2 6) && (sufB (s.extract 6 7) && digB (s.extract 8 s.size))))) := by
  unfold fForm
  rw [decide_eq_true (by omega), Bool.true_and, show s.size - 3 = 7 by omega, show s.size - 2 = 8 by omega]
  rfl
theorem fS0_10 {s : ByteArray} (hz : s.size = 10) : fS0 s = s.extract 6 7 := by unfold fS0; rw [show s.size - 3 = 7 by omega]
theorem fD0_10 {s : ByteArray} (hz : s.size = 10) : fD0 s = valN (s.extract 8 s.size).data.toList := by unfold fD0; rw [show s.size - 2 = 8 by omega]

set_option maxHeartbeats 1000000 in
theorem rfparse_bad10 (s : ByteArray) (w : World) (hz : s.size = 10) (hf : fForm s = false) :
    Calls Try.prog 43 #[.string s] w (ParsedF s w) := by
  have H := Lib.hid (f_no hf)
  rw [form10 hz] at hf
  have i1 : (s.size : Int) = 10 := by omega
  have p0 : 7 < s.size := by omega
  have zA : (s.extract 2 6).size ≤ maxLen := by rw [size_ext]; unfold maxLen; omega
  have zB : (s.extract 8 s.size).size ≤ maxLen := by rw [size_ext]; unfold maxLen; omega
  rw [← bat_at s 7 p0] at hf
  clear hz
  rcases chain5 hf with h0 | ⟨h0, h1⟩ | ⟨h0, h1, h2⟩ | ⟨h0, h1, h2, h3⟩ | ⟨h0, h1, h2, h3, h4⟩
  · have q := ne_dec h0
    clear hf h0
    simp only [Bool.not_false] at q
    go_enter Try.func43, Try.ntmps43
    go_wp2
    go_returns
    exact ParsedF.mk H.out ((Below.refl _ _).alloc (Nat.le_refl _) _)
  all_goals
    have q := ne_dec h0
    clear hf h0
    simp only [Bool.not_true] at q
    go_enter Try.func43, Try.ntmps43
    go_wp2_with (first
      | (go_at_call 70; refine (rcarrier_any _ _).mono ?_; rintro e w2 ⟨rfl, m2, rfl⟩)
      | (go_at_call 59; refine (dall_any _ _ (by first | exact zA | exact zB)).mono ?_; rintro e w2 ⟨rfl, rfl⟩)
      | (go_at_call 71; refine (rsuffix_any _ _).mono ?_; rintro e w2 ⟨rfl, rfl⟩))
    refine bodyPost_ret (v := .tuple #[.agg #[.string ByteArray.empty, .int .i64 0, .string ByteArray.empty, .int .i64 0], .int .i64 3]) (by simp [results, go_sem]; rfl) rfl ?_
    exact ParsedF.mk H.out (Below.set4 (draws ((Below.refl _ _).alloc (Nat.le_refl _) _) _) (Nat.le_refl _) _ _ _ _)

set_option maxHeartbeats 2000000 in
theorem rfparse_good10 (s : ByteArray) (w : World) (hz : s.size = 10) (hf : fForm s = true) :
    Calls Try.prog 43 #[.string s] w (ParsedF s w) := by
  have hff := hf
  rw [form10 hz] at hf
  simp only [Bool.and_eq_true, decide_eq_true_eq] at hf
  obtain ⟨h0, h1, h2, h3, h4⟩ := hf
  have hA : ∀ W, Calls Try.prog 60 #[.string (s.extract 2 6)] W fun e w' => e = .returned (.int .i64 (fN0 s)) ∧ W = w' := fun W => rvalue_any _ W (by rw [size_ext]; omega) h2
  have hB : ∀ W, Calls Try.prog 60 #[.string (s.extract 8 s.size)] W fun e w' => e = .returned (.int .i64 (fD0 s)) ∧ W = w' := fun W => by rw [fD0_10 hz]; exact rvalue_any _ W (by rw [size_ext]; omega) h4
  have HA := hide hA
  have HB := hide hB
  clear hA hB
  have p0 : 7 < s.size := by omega
  have i1 : (s.size : Int) = 10 := by omega
  have j2 : (2 : Int) ≤ (s.size : Int) := by omega
  have j6 : (6 : Int) ≤ (s.size : Int) := by omega
  have jm : (7 : Int) ≤ (s.size : Int) := by omega
  have jn : (8 : Int) ≤ (s.size : Int) := by omega
  have r1 : IntKind.i64.wrap 7 = 7 := by decide
  have r2 : IntKind.i64.wrap 8 = 8 := by decide
  have zA : (s.extract 2 6).size ≤ maxLen := by rw [size_ext]; unfold maxLen; omega
  have zB : (s.extract 8 s.size).size ≤ maxLen := by rw [size_ext]; unfold maxLen; omega
  rw [← bat_at s 7 p0] at h0
  have q : ((s[7].toNat : Int) != 47) = false := by rw [bne_eq_false_iff_eq]; exact h0
  have eS := Lib.hid (fS0_10 hz)
  have HZ := Lib.hid hz
  have HF := Lib.hid hff
  clear h0 hz hff
  go_enter Try.func43, Try.ntmps43
  go_wp2_with (first
    | (go_at_call 70; refine (rcarrier_any _ _).mono ?_; rintro e w2 ⟨rfl, m2, rfl⟩)
    | (go_at_call 59; refine (dall_any _ _ (by first | exact zA | exact zB)).mono ?_; rintro e w2 ⟨rfl, rfl⟩)
    | (go_at_call 71; refine (rsuffix_any _ _).mono ?_; rintro e w2 ⟨rfl, rfl⟩))
  go_region_held3 (fun _ => True) (trivial)
      (first | (go_at_call 60; (first | ((with_reducible refine (unhide HA _).mono ?_); rintro e w1 ⟨rfl, rfl⟩) | ((with_reducible refine (unhide HB _).mono ?_); rintro e w1 ⟨rfl, rfl⟩))))
  all_goals
    have P := PF.begin w (m2 + 1) (s.extract 0 2) (fN0 s) (s.extract 6 7) (fD0 s) 53 53
    generalize ((w.alloc (.cells #[.string ⟨#[]⟩, .int .i64 0, .string ⟨#[]⟩, .int .i64 0] 53)).drewN (m2 + 1)).alloc (.cells #[.string (s.extract 0 2), .int .i64 (fN0 s), .string (s.extract 6 7), .int .i64 (fD0 s)] 53) = V at *
    clear HA HB h1 h2 h3 h4 zA zB q p0 jm jn j2 j6 r1 r2
    obtain ⟨hb, _, _, ⟨c0, c1, c2, c3⟩, ⟨f0, f1, f2, f3⟩, ⟨k0, k1, k2, k3⟩, _⟩ := P
    have HB1 := Lib.hid hb
    clear hb
    by_cases hn : fN0 s = 0
    · have hb : (fN0 s == 0) = true := by rw [beq_iff_eq]; exact hn
      have H := Lib.hid (f_range HF.out hn)
      clear hn
      go_wp2
      refine bodyPost_ret (v := .tuple #[.agg #[.string ByteArray.empty, .int .i64 0, .string ByteArray.empty, .int .i64 0], .int .i64 1]) (by simp [results, go_sem, c0, c1, c2, c3]; rfl) rfl ?_
      exact ParsedF.mk H.out (Below.set4 HB1.out (Nat.le_refl _) _ _ _ _)
    · have hb : (fN0 s == 0) = false := by rw [beq_eq_false_iff_ne]; exact hn
      have H := Lib.hid (f_yes HF.out hn)
      clear hn
      go_wp2
      refine bodyPost_ret (v := .tuple #[.agg #[.string (s.extract 0 2), .int .i64 (fN0 s), .string (s.extract 6 7), .int .i64 (fD0 s)], .int .i64 0]) (by simp [results, go_sem, c0, c1, c2, c3]) rfl ?_
      obtain ⟨y0, y1, y2, y3, y4⟩ := H.out
      exact ParsedF.mk ⟨y0, y1, y2.trans eS.out, y3, y4⟩ (Below.set4 HB1.out (Nat.le_refl _) _ _ _ _)

theorem rfparse_any (s : ByteArray) (w : World) : Calls Try.prog 43 #[.string s] w (ParsedF s w) := by
  by_cases h9 : s.size = 9
  · cases hf : fForm s with
    | false => exact rfparse_bad9 s w h9 hf
    | true => exact rfparse_good9 s w h9 hf
  · by_cases h10 : s.size = 10
    · cases hf : fForm s with
      | false => exact rfparse_bad10 s w h10 hf
      | true => exact rfparse_good10 s w h10 hf
    · exact rfparse_size s w ⟨h9, h10⟩
end Go.Proofs.Ytaimmohfcjoclaa
