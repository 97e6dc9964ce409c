/-
  Contracts of Compare of flights (both).
-/
import Derived.Test.YtaimmohfcjoclaaOrderF
import Derived.Test.YtaimmohfcjoclaaTail
namespace Go.Proofs.Ytaimmohfcjoclaa
open Go.RowKit

theorem below_two (w : World) (o o' : Obj) : Below w.heap.size w ((w.alloc o).alloc o') := ((Below.refl _ _).alloc (Nat.le_refl _) _).alloc (by simp) _

set_option maxHeartbeats 1000000 in
theorem fcmp_any (c : ByteArray) (n : Int) (s : ByteArray) (d : Int) (c' : ByteArray) (n' : Int) (s' : ByteArray) (d' : Int) (w : World) :
    Calls Try.prog 51 #[.agg #[.string c, .int .i64 n, .string s, .int .i64 d], .agg #[.string c', .int .i64 n', .string s', .int .i64 d']] w fun e w' => e = .returned (.int .i64 (cmpF c n s d c' n' s' d')) ∧ Below w.heap.size w w' := by
  have F := (Four.new w c n s d 53).alloc (.cells #[.string c', .int .i64 n', .string s', .int .i64 d'] 53)
  have G := Four.new (w.alloc (.cells #[.string c, .int .i64 n, .string s, .int .i64 d] 53)) c' n' s' d' 53
  rw [World.size_alloc] at G
  have HB : Below w.heap.size w ((w.alloc (.cells #[.string c, .int .i64 n, .string s, .int .i64 d] 53)).alloc (.cells #[.string c', .int .i64 n', .string s', .int .i64 d'] 53)) := ((Below.refl _ _).alloc (Nat.le_refl _) _).alloc (by simp) _
  have HBB := Lib.hid HB
  clear HB
  obtain ⟨k0, k1, k2, k3⟩ := F
  obtain ⟨l0, l1, l2, l3⟩ := G
  have m0 := After.cell k0
  have m1 := After.cell k1
  have m2 := After.cell k2
  have m3 := After.cell k3
  have o0 := After.cell l0
  have o1 := After.cell l1
  have o2 := After.cell l2
  have o3 := After.cell l3
  go_enter Try.func51, Try.ntmps51
  go_wp2_with fail
  refine wp_region_after_tail 20 (by kernel_rfl) (by kernel_rfl) ?_
  simp only [List.take_succ_cons, List.take_zero, List.drop_succ_cons, List.drop_zero]
  repeat (go_big_quiet_step ((first | (go_at_call 75; exact After.same (scmp_any _ _ _)) | (go_at_call 64; exact After.same (ccmp_any _ _ _)))))
  refine wpQuiet_nil ?_
  rintro _ ⟨t, rfl⟩
  have hb := Lib.hid (onward HBB.out t.is)
  clear m0 m1 m2 m3 o0 o1 o2 o3
  go_wp2_with fail
  refine (or_any (World.heap t.to).size (sgnS c c') (sgn n n') (sgnS s s') (sgn d d') _ (by simp [go_sem]) (by simp [go_sem]) (by simp [go_sem]) (by simp [go_sem])).mono ?_
  rintro e w2 ⟨rfl, rfl⟩
  go_wp2
  go_ret
  exact ⟨rfl, below_new hb.out _⟩

set_option maxHeartbeats 2000000 in
theorem rfcmp_any (c : ByteArray) (n : Int) (s : ByteArray) (d : Int) (c' : ByteArray) (n' : Int) (s' : ByteArray) (d' : Int) (w : World) :
    Calls Try.prog 52 #[.agg #[.string c, .int .i64 n, .string s, .int .i64 d], .agg #[.string c', .int .i64 n', .string s', .int .i64 d']] w fun e w' => e = .returned (.int .i64 (cmpF c n s d c' n' s' d')) ∧ Below w.heap.size w w' := by
  go_enter Try.func52, Try.ntmps52
  go_wp2
  all_goals
    go_ret
    refine ⟨ret_int ?_, below_two w _ _⟩
    unfold cmpF or4 sgnS sgn
    simp_all [less_self]
    try omega
end Go.Proofs.Ytaimmohfcjoclaa
