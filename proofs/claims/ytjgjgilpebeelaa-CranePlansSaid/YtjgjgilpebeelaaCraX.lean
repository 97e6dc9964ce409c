/-
  Crane (layer 18): the library's stable sort, whole, with the closure that compares by due times.
-/
import Derived.Test.YtjgjgilpebeelaaCraW
namespace Go.Proofs.Ytjgjgilpebeelaa
open Go.RowKit

/-- A run in order that holds its own places' numbers. -/
def Good (f : Int → Int) (lo hi : Nat) (l : List Int) : Prop := Srt (lexR f) lo hi l ∧ ∀ k, lo ≤ k → k < hi → (lo : Int) ≤ l.getD k 0 ∧ l.getD k 0 < (hi : Int)
section
variable {f : Int → Int} {s a n e lo hi : Nat} {l l' : List Int}
theorem Good.eq (h : Good f lo hi l) (he : ∀ k, lo ≤ k → k < hi → l'.getD k 0 = l.getD k 0) : Good f lo hi l' := ⟨h.1.eq he, fun k h1 h2 => by rw [he k h1 h2]; exact h.2 k h1 h2⟩
theorem far_dvd (h1 : s ∣ lo) (h2 : s ∣ a) (h : lo < a) : lo + s ≤ a := by
  apply Classical.byContradiction
  intro hc
  have := Nat.le_of_lt_add_of_dvd (show a < lo + s by omega) h2 h1
  omega
/-- All runs of s places below a are good. -/
def Done (f : Int → Int) (s a n : Nat) (l : List Int) : Prop := ∀ lo, s ∣ lo → lo < a → Good f lo (min (lo + s) n) l
theorem Done.step (h : Done f s a n l) (ha : s ∣ a) (h0 : 0 < s) (he : e = min (a + s) n) (hid : ∀ k, a ≤ k → k < n → l.getD k 0 = (k : Int)) (hm : Mov a e l l') (hs : Srt (lexR f) a e l') : Done f s (a + s) n l' ∧ ∀ k, a + s ≤ k → k < n → l'.getD k 0 = (k : Int) := by
  refine ⟨fun lo h1 h2 => ?_, fun k h1 h2 => by rw [hm.out k (.inr (by omega))]; exact hid k (by omega) h2⟩
  rcases Nat.lt_or_ge lo a with c | c
  · have := far_dvd h1 ha c
    exact (h lo h1 c).eq fun k _ h4 => hm.out k (.inl (by omega))
  · have : lo = a := by
      have := Nat.le_of_lt_add_of_dvd h2 h1 ha
      omega
    subst this
    rw [← he]
    refine ⟨hs, fun k h3 h4 => ?_⟩
    obtain ⟨j, j1, j2, ej⟩ := hm.sub k h3 h4
    rw [ej, hid j j1 (by omega)]
    omega
def Inv2 (f : Int → Int) (s a n : Nat) (l : List Int) : Prop := (∀ lo, 2 * s ∣ lo → lo < a → Good f lo (min (lo + 2 * s) n) l) ∧ ∀ lo, s ∣ lo → a ≤ lo → lo < n → Good f lo (min (lo + s) n) l
theorem Inv2.start (h : Done f s n n l) : Inv2 f s 0 n l := ⟨fun _ _ h => absurd h (Nat.not_lt_zero _), fun lo h1 _ h2 => h lo h1 h2⟩
theorem dvd_one (ha : 2 * s ∣ a) : s ∣ a := Nat.dvd_trans ⟨2, Nat.mul_comm 2 s⟩ ha
theorem Inv2.pre (h : Inv2 f s a n l) (ha : 2 * s ∣ a) (h0 : 0 < s) (hn : a + s < n) (he : e = min (a + 2 * s) n) : Srt (lexR f) a (a + s) l ∧ Srt (lexR f) (a + s) e l ∧ Crs a (a + s) e l ∧ (∀ k, a ≤ k → k < e → (a : Int) ≤ l.getD k 0 ∧ l.getD k 0 < (e : Int)) := by
  have g1 := h.2 a (dvd_one ha) (Nat.le_refl _) (by omega)
  have g2 := h.2 (a + s) (Nat.dvd_add (dvd_one ha) (Nat.dvd_refl s)) (by omega) hn
  rw [show min (a + s) n = a + s by omega] at g1
  rw [show min (a + s + s) n = e by omega] at g2
  refine ⟨g1.1, g2.1, fun i j i1 i2 j1 j2 => ?_, fun k k1 k2 => ?_⟩
  · have := g1.2 i i1 i2; have := g2.2 j j1 j2; omega
  · rcases Nat.lt_or_ge k (a + s) with c | c
    · have := g1.2 k k1 c; omega
    · have := g2.2 k c k2; omega
theorem Inv2.step (h : Inv2 f s a n l) (ha : 2 * s ∣ a) (h0 : 0 < s) (hn : a + s < n) (he : e = min (a + 2 * s) n) (hm : Mov a e l l') (hs : Srt (lexR f) a e l') : Inv2 f s (a + 2 * s) n l' := by
  refine ⟨fun lo h1 h2 => ?_, fun lo h1 h2 h3 => ?_⟩
  · rcases Nat.lt_or_ge lo a with c | c
    · have := far_dvd h1 ha c
      exact (h.1 lo h1 c).eq fun k _ h4 => hm.out k (.inl (by omega))
    · have : lo = a := by
        have := Nat.le_of_lt_add_of_dvd h2 h1 ha
        omega
      subst this
      rw [← he]
      refine ⟨hs, fun k h3 h4 => ?_⟩
      obtain ⟨j, j1, j2, ej⟩ := hm.sub k h3 h4
      rw [ej]
      exact (h.pre ha h0 hn he).2.2.2 j j1 j2
  · exact (h.2 lo h1 (by omega) h3).eq fun k h4 _ => hm.out k (.inr (by omega))
theorem Inv2.last (h : Inv2 f s a n l) (ha : 2 * s ∣ a) (h0 : 0 < s) (hn : n ≤ a + s) : Done f (2 * s) n n l := fun lo h1 h2 => by
  rcases Nat.lt_or_ge lo a with c | c
  · exact h.1 lo h1 c
  · have : lo = a := by
      have := Nat.le_of_lt_add_of_dvd (show lo < a + 2 * s by omega) h1 ha
      omega
    subst this
    have := h.2 lo (dvd_one ha) (Nat.le_refl _) h2
    rw [show min (lo + s) n = min (lo + 2 * s) n by omega] at this
    exact this
theorem Inv2.fin (h : Inv2 f s a n l) (hn : n ≤ a) : Done f (2 * s) n n l := fun lo h1 h2 => h.1 lo h1 (by omega)
theorem Done.all (h : Done f s n n l) (hn : n ≤ s) : Srt (lexR f) 0 n l := fun i j h1 h2 h3 => by
  have := (h 0 (Nat.dvd_zero s) (by omega)).1
  rw [show min (0 + s) n = n by omega] at this
  exact this i j h1 h2 h3
end
set_option maxHeartbeats 4000000 in
set_option maxRecDepth 100000 in
theorem stable_any (jobs : List Jb) (jb g c N : Nat) (A : Option Addr) (w0 w : World) (hcp : Cap jobs jb g A c w0) (hNj : N = jobs.length) (hN : N ≤ 1000) (h : SrW w0 g N (upI N) w) :
    Calls Try.prog 44 #[.slice (some ⟨g, 0, none⟩) N N, .int .i64 N, bdV jb] w fun e w' => e = .returned (.tuple #[]) ∧ ∃ o, SrW w0 g N o w' ∧ IsBy jobs o := by
  have HIS := hide (fun a b l w => isort_any jobs jb g c N A w0 a b l w hcp hNj (by omega))
  have HSY := hide (fun a m b l w => sym_any jobs jb g c N A w0 hcp hNj (by omega) (b - a) a m b l w (Nat.le_refl _))
  have H0 := hide (show SrW w0 g N (upI N) w ∧ (upI N).Perm (upI N) ∧ Done (dueJ jobs) 20 0 N (upI N) ∧ ∀ k, 0 ≤ k → k < N → (upI N).getD k 0 = (k : Int) from ⟨h, List.Perm.refl _, fun _ _ h => absurd h (Nat.not_lt_zero _), fun k _ hk => upI_at hk⟩)
  have HNJ := hide hNj
  clear hcp h hNj
  go_enter Try.func44, Try.ntmps44
  go_wp2_with fail
  go_loopw [7, 8] (fun s7 s8 wr => ∃ (a : Nat) (l1 : List Int), s7 = .int .i64 a ∧ s8 = .int .i64 ((a + 20 : Nat) : Int) ∧ 20 ∣ a ∧ a ≤ N ∧ Hid (SrW w0 g N l1 wr ∧ l1.Perm (upI N) ∧ Done (dueJ jobs) 20 a N l1 ∧ ∀ k, a ≤ k → k < N → l1.getD k 0 = (k : Int))) (fun s7 _ _ => N - (intOf s7).toNat)
  case atStart => exact ⟨0, _, rfl, rfl, Nat.dvd_zero _, Nat.zero_le _, H0⟩
  case round =>
    clear H0
    obtain ⟨a, l1, rfl, rfl, hda, haN, HS⟩ := hrel
    obtain ⟨wo, rfl⟩ : ∃ wo : World, wo = wr := ⟨_, rfl⟩
    obtain ⟨b, hb⟩ : ∃ b, a + 20 = b := ⟨_, rfl⟩
    rw [hb]
    by_cases hlt : b ≤ N
    · have q0 : (b : Int) ≤ (N : Int) := by omega
      have wb : IntKind.i64.wrap ((b : Int) + 20) = ((b + 20 : Nat) : Int) := by rw [IntKind.wrap_i64]; omega
      have HC := hide (unhide HIS a b l1 wo (unhide HS).1 (by omega) hlt (fun p q p1 p2 p3 => by rw [(unhide HS).2.2.2 p p1 (by omega), (unhide HS).2.2.2 q (by omega) (by omega)]; omega))
      have HST := hide (fun (l2 : List Int) (hm : Mov a b l1 l2) (hs : Srt (lexR (dueJ jobs)) a b l2) => hb ▸ (unhide HS).2.2.1.step (e := b) hda (by omega) (by omega) (unhide HS).2.2.2 hm hs)
      have HP := hide (unhide HS).2.1
      have hdb : 20 ∣ b := by omega
      have hab : N - b < N - a := by omega
      clear hda haN hb
      go_wp2_with (go_at_call 46; refine (unhide HC).mono ?_; rintro e' w2 ⟨rfl, l2, hs2, hm2, hr2⟩; have H2 := hide (show SrW w0 g N l2 w2 ∧ Mov a b l1 l2 ∧ Srt (lexR (dueJ jobs)) a b l2 from ⟨hs2, hm2, hr2⟩); clear hs2 hm2 hr2)
      go_roundw
      case rel => exact ⟨b, l2, rfl, by go_num, hdb, hlt, hide ⟨(unhide H2).1, (unhide H2).2.1.perm.trans (unhide HP), unhide HST l2 (unhide H2).2.1 (unhide H2).2.2⟩⟩
      case measure => simp [intOf]; omega
    · have q0 : ¬ (b : Int) ≤ (N : Int) := by omega
      have HC := hide (unhide HIS a N l1 wo (unhide HS).1 haN (Nat.le_refl _) (fun p q p1 p2 p3 => by rw [(unhide HS).2.2.2 p p1 (by omega), (unhide HS).2.2.2 q (by omega) (by omega)]; omega))
      have HST := hide (show ∀ (l2 : List Int), Mov a N l1 l2 → Srt (lexR (dueJ jobs)) a N l2 → Done (dueJ jobs) 20 N N l2 from fun l2 hm hs => by
        have := ((unhide HS).2.2.1.step (e := N) hda (by omega) (by omega) (unhide HS).2.2.2 hm hs).1
        exact fun lo h1 h2 => this lo h1 (by omega))
      have HP := hide (unhide HS).2.1
      clear hda haN hb hlt
      go_wp2_with (go_at_call 46; refine (unhide HC).mono ?_; rintro e' w2 ⟨rfl, l2, hs2, hm2, hr2⟩; have H2 := hide (show SrW w0 g N l2 w2 ∧ l2.Perm (upI N) ∧ Done (dueJ jobs) 20 N N l2 from ⟨hs2, hm2.perm.trans (unhide HP), unhide HST l2 hm2 hr2⟩); clear hs2 hm2 hr2)
      clear HC HST HP HS HIS q0
      clear l1 wo
      go_loopw [6] (fun s6 wr => ∃ (s : Nat) (l3 : List Int), s6 = .int .i64 s ∧ 20 ≤ s ∧ s ≤ 2000 ∧ Hid (SrW w0 g N l3 wr ∧ l3.Perm (upI N) ∧ Done (dueJ jobs) s N N l3)) (fun s6 _ => N - (intOf s6).toNat)
      case atStart => exact ⟨20, l2, rfl, Nat.le_refl _, by omega, H2⟩
      case round =>
        clear H2
        clear l2
        obtain ⟨s, l3, rfl, hs20, hs2k, HS⟩ := hrel
        obtain ⟨wo, rfl⟩ : ∃ wo : World, wo = wr := ⟨_, rfl⟩
        by_cases hlt : s < N
        · have q0 : (s : Int) < (N : Int) := by omega
          obtain ⟨d, hd⟩ : ∃ d, 2 * s = d := ⟨_, rfl⟩
          have wd : IntKind.i64.wrap (2 * (s : Int)) = (d : Int) := by rw [IntKind.wrap_i64]; omega
          have wd' : IntKind.i64.wrap ((s : Int) * 2) = (d : Int) := by rw [IntKind.wrap_i64]; omega
          have HD := hide hd
          have HI0 := hide (show SrW w0 g N l3 wo ∧ l3.Perm (upI N) ∧ Inv2 (dueJ jobs) s 0 N l3 from ⟨(unhide HS).1, (unhide HS).2.1, Inv2.start (unhide HS).2.2⟩)
          have hd40 : 40 ≤ d ∧ d ≤ 2000 := by omega
          have hms : N - d < N - s := by omega
          clear HS hd
          go_wp2_with fail
          go_loopw [7, 8] (fun s7 s8 wr2 => ∃ (a : Nat) (l4 : List Int), s7 = .int .i64 a ∧ s8 = .int .i64 ((a + d : Nat) : Int) ∧ Hid (d ∣ a) ∧ a ≤ N ∧ Hid (SrW w0 g N l4 wr2 ∧ l4.Perm (upI N) ∧ Inv2 (dueJ jobs) s a N l4)) (fun s7 _ _ => N - (intOf s7).toNat)
          case atStart => exact ⟨0, l3, rfl, by rw [Nat.zero_add], hide (Nat.dvd_zero _), Nat.zero_le _, HI0⟩
          case round =>
            clear HI0
            clear l3 wo
            obtain ⟨a, l4, rfl, rfl, HDA, haN, HS⟩ := hrel
            obtain ⟨wq, rfl⟩ : ∃ wq : World, wq = wr := ⟨_, rfl⟩
            obtain ⟨b, hb⟩ : ∃ b, a + d = b := ⟨_, rfl⟩
            rw [hb]
            obtain ⟨m, hm⟩ : ∃ m, a + s = m := ⟨_, rfl⟩
            have wm : IntKind.i64.wrap ((a : Int) + (s : Int)) = (m : Int) := by rw [IntKind.wrap_i64]; omega
            by_cases hbN : b ≤ N
            · have q1 : (b : Int) ≤ (N : Int) := by omega
              have wb : IntKind.i64.wrap ((b : Int) + (d : Int)) = ((b + d : Nat) : Int) := by rw [IntKind.wrap_i64]; omega
              have hd2 := unhide HD
              have hda : 2 * s ∣ a := by rw [hd2]; exact unhide HDA
              have HPR := hide ((unhide HS).2.2.pre (e := b) hda (by omega) (by omega) (by omega))
              have HC := hide (unhide HSY a m b l4 wq hbN (unhide HS).1 (by omega) (by omega) (by rw [← hm]; exact (unhide HPR).1) (by rw [← hm]; exact (unhide HPR).2.1) (by rw [← hm]; exact (unhide HPR).2.2.1))
              have HST := hide (show ∀ (l5 : List Int), Mov a b l4 l5 → Srt (lexR (dueJ jobs)) a b l5 → Inv2 (dueJ jobs) s b N l5 from fun l5 h1 h2 => by
                have := (unhide HS).2.2.step (e := b) hda (by omega) (by omega) (by omega) h1 h2
                rwa [hd2, hb] at this)
              have HP := hide (unhide HS).2.1
              have HDB := hide (show d ∣ b by rw [← hb]; exact Nat.dvd_add (unhide HDA) (Nat.dvd_refl d))
              have hab : N - b < N - a := by omega
              clear hda hd2 HPR hm hb
              go_wp2_with (go_at_call 47; refine (unhide HC).mono ?_; rintro e' w5 ⟨rfl, l5, hs5, hm5, hr5⟩; have H5 := hide (show SrW w0 g N l5 w5 ∧ l5.Perm (upI N) ∧ Inv2 (dueJ jobs) s b N l5 from ⟨hs5, hm5.perm.trans (unhide HP), unhide HST l5 hm5 hr5⟩); clear hs5 hm5 hr5)
              go_roundw
              case rel => exact ⟨b, l5, rfl, by go_num, HDB, hbN, H5⟩
              case measure => simp [intOf]; omega
            · have q1 : ¬ (b : Int) ≤ (N : Int) := by omega
              have hd2 := unhide HD
              have hda : 2 * s ∣ a := by rw [hd2]; exact unhide HDA
              by_cases hmN : m < N
              · have q2 : (m : Int) < (N : Int) := by omega
                have HPR := hide ((unhide HS).2.2.pre (e := N) hda (by omega) (by omega) (by omega))
                have HC := hide (unhide HSY a m N l4 wq (Nat.le_refl _) (unhide HS).1 (by omega) hmN (by rw [← hm]; exact (unhide HPR).1) (by rw [← hm]; exact (unhide HPR).2.1) (by rw [← hm]; exact (unhide HPR).2.2.1))
                have HST := hide (show ∀ (l5 : List Int), Mov a N l4 l5 → Srt (lexR (dueJ jobs)) a N l5 → Done (dueJ jobs) d N N l5 from fun l5 h1 h2 => by
                  have := ((unhide HS).2.2.step (e := N) hda (by omega) (by omega) (by omega) h1 h2).fin (by omega)
                  rwa [hd2] at this)
                have HP := hide (unhide HS).2.1
                clear hda hd2 HPR hm hb hbN
                go_wp2_with (go_at_call 47; refine (unhide HC).mono ?_; rintro e' w5 ⟨rfl, l5, hs5, hm5, hr5⟩; have H5 := hide (show SrW w0 g N l5 w5 ∧ l5.Perm (upI N) ∧ Done (dueJ jobs) d N N l5 from ⟨hs5, hm5.perm.trans (unhide HP), unhide HST l5 hm5 hr5⟩); clear hs5 hm5 hr5)
                go_roundw
                case rel => exact ⟨d, l5, by go_num, by omega, hd40.2, H5⟩
                case measure => simp [intOf]; omega
              · have q2 : ¬ (m : Int) < (N : Int) := by omega
                have H5 := hide (show SrW w0 g N l4 wq ∧ l4.Perm (upI N) ∧ Done (dueJ jobs) d N N l4 from ⟨(unhide HS).1, (unhide HS).2.1, by
                  have := (unhide HS).2.2.last hda (by omega) (by omega)
                  rwa [hd2] at this⟩)
                clear hda hd2 hm hb hbN hmN
                go_wp2
                go_roundw
                case rel => exact ⟨d, l4, by go_num, by omega, hd40.2, H5⟩
                case measure => simp [intOf]; omega
        · have q0 : ¬ (s : Int) < (N : Int) := by omega
          go_wp2
          go_end0
          exact ⟨rfl, l3, (unhide HS).1, isBy_srt (by rw [← unhide HNJ]; exact (unhide HS).2.1) (by rw [(unhide HS).1.len]; exact (unhide HS).2.2.all (by omega))⟩
end Go.Proofs.Ytjgjgilpebeelaa
