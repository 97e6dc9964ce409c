/-
  Whole messages loaded and stored; contract of ofKind: the message with the fields of its kind alone.
-/
import Derived.Test.YtglgobmmmghdoaaGreatDoorMsgC
import Derived.RegionTactic
import Derived.Deep.WholeRow
import Derived.Laws.Rows
namespace Go.Proofs.YtglgobmmmghdoaaGreatDoor
open Go.RowKit

theorem infoM : (Tryz.prog.info? 35).map (·.size) = some 30 := by kernel_rfl
theorem undM : (match (Tryz.prog.underlying 35).getD .bool with | .struct _ | .array _ _ => true | _ => false) = true := by kernel_rfl
theorem undM' : Tryz.prog.underlying 35 = some ((Tryz.prog.underlying 35).getD .bool) := by kernel_rfl

set_option maxRecDepth 100000 in
theorem one_msgL (m : Msg) (A : Option Addr) (c : Nat) (L : Option Addr) (d : Nat) : (msgL m A c L d).all (·.oneCell') = true := by simp [Value.oneCell']
section
variable {ops : Array Oper} {rest : List Oper} {o : Oper} {a : Act} {W : World} {Q : Exit → Act → World → Prop}
set_option maxRecDepth 100000 in
/-- A whole message is stored into the block that is the last one. -/
theorem wpList_storeM_new {t : TypeId} {old : Array Value} {g : Nat} (hz : W.heap.size = g) (m : Msg) (A : Option Addr) (c : Nat) (L : Option Addr) (d : Nat) (hgd : o.guard = none) (x y : Operand) (ho : o.op = .store 35 x y)
    (hx : a.eval x = .pointer (some ⟨g, 0, none⟩)) (hy : a.eval y = msgV m A c L d) (hold : old.size = 30)
    (h : wpList Tryz.prog ops Q rest (a.put o.dst undef) (W.alloc (.cells (msgL m A c L d) t))) : wpList Tryz.prog ops Q (o :: rest) a (W.alloc (.cells old t)) := by
  subst hz
  exact wpList_store_row hgd _ x y ho W.heap.size (msgL m A c L d) hx hy t old (heap_alloc_new W _) infoM hold (one_msgL m A c L d) (by rw [World.setRow_alloc_new]; exact h)
set_option maxRecDepth 100000 in
/-- A whole message is stored into a block. -/
theorem wpList_storeM {t : TypeId} {g : Nat} {old : Array Value} (hg : W.heap[g]? = some (.cells old t (0, 0))) (m : Msg) (A : Option Addr) (c : Nat) (L : Option Addr) (d : Nat) (hgd : o.guard = none) (x y : Operand) (ho : o.op = .store 35 x y)
    (hx : a.eval x = .pointer (some ⟨g, 0, none⟩)) (hy : a.eval y = msgV m A c L d) (hold : old.size = 30)
    (h : wpList Tryz.prog ops Q rest (a.put o.dst undef) (W.setRow g (msgL m A c L d))) : wpList Tryz.prog ops Q (o :: rest) a W :=
  wpList_store_row hgd _ x y ho g _ hx hy t old hg infoM hold (one_msgL m A c L d) h
set_option maxRecDepth 100000 in
/-- A whole message is loaded. -/
theorem wpList_loadM {t : TypeId} {g : Nat} {fr : Nat × Nat} {m : Msg} {A : Option Addr} {c : Nat} {L : Option Addr} {d : Nat} (hg : W.heap[g]? = some (.cells (msgL m A c L d) t fr)) (hgd : o.guard = none) (x : Operand) (ho : o.op = .load 35 x)
    (hx : a.eval x = .pointer (some ⟨g, 0, none⟩))
    (h : wpList Tryz.prog ops Q rest (a.put o.dst (msgV m A c L d)) W) : wpList Tryz.prog ops Q (o :: rest) a W :=
  wpList_load_row hgd _ x ho g hx t _ fr _ hg undM' undM infoM h
end

/-- A message comes back, somewhere in memory. -/
def GivesM (b : Nat) (W : World) (m : Msg) (e : Ending) (w' : World) : Prop :=
  ∃ A c L d, e = .returned (msgV m A c L d) ∧ LegsIn b w' A m.onw ∧ NumsIn b w' L m.lst ∧ Below W.heap.size W w'

def GivesMV (b : Nat) (W : World) (m : Msg) (A : Option Addr) (c : Nat) (L : Option Addr) (d : Nat) (e : Ending) (w' : World) : Prop :=
  e = .returned (msgV m A c L d) ∧ LegsIn b w' A m.onw ∧ NumsIn b w' L m.lst ∧ Below W.heap.size W w'

abbrev zeroL : Array Value := #[.int .i64 0, .int .i64 0, .string ⟨#[]⟩, .int .i64 0,
    .string ⟨#[]⟩, .int .i64 0, .string ⟨#[]⟩, .int .i64 0, .string ⟨#[]⟩, .string ⟨#[]⟩,
    .string ⟨#[]⟩, .int .i64 0, .string ⟨#[]⟩, .int .i64 0, .string ⟨#[]⟩, .string ⟨#[]⟩,
    .slice none 0 0, .int .i64 0, .int .i64 0, .int .i64 0, .int .i64 0, .bool false, .int .i64 0, .int .i64 0, .int .i64 0,
    .string ⟨#[]⟩, .string ⟨#[]⟩, .int .i64 0, .string ⟨#[]⟩, .slice none 0 0]

theorem below_setRow {B g : Nat} {a w : World} (h : Below B a w) (hg : B ≤ g) (cs : Array Value) : Below B a (w.setRow g cs) := by
  refine ⟨h.os, h.tape, h.output, ?_, fun k hk => ?_⟩
  · simpa [World.setRow] using h.size
  · rw [setRow_other w g k cs (by omega)]; exact h.block k hk

set_option maxHeartbeats 8000000 in
set_option maxRecDepth 100000 in
theorem own_1 (b : Nat) (m : Msg) (A L : Option Addr) (c d : Nat) (w : World) (hk : m.kind = 1) (h1 : LegsIn b w A m.onw) :
    Calls Tryz.prog 34 #[msgV m A c L d] w (GivesMV b w (ownM m) A c none 0) := by
  have HV := hide (show ownM m = { m with inn := lg0, node := ByteArray.empty, lst := [] } by unfold ownM;  rw [if_pos hk])
  have H1 := hide h1
  have t1 : (m.kind == 1) = true := by rw [hk]; rfl
  clear h1 hk
  obtain ⟨W1, hW⟩ : ∃ W1 : World, (w.alloc (msgO m A c L d)).alloc (.cells zeroL 35) = W1 := ⟨_, rfl⟩
  have hA : ∀ k v, (msgL m A c L d)[k]? = some v → W1.cell? ⟨w.heap.size, k, none⟩ = some v := fun k v hk => by rw [← hW]; exact box_cell hk
  have z0 := hA 0 _ rfl
  have z2 := hA 2 _ rfl
  have z3 := hA 3 _ rfl
  have hb0 : ∀ o, (W1.alloc o).heap[w.heap.size]? = some (msgO m A c L d) := fun o => by
    rw [Below.heap_alloc _ _ _ (by rw [← hW, World.size_alloc, World.size_alloc]; omega), ← hW, Below.heap_alloc _ _ _ (by rw [World.size_alloc]; omega), heap_alloc_new]
  have HB0 := hide hb0
  have y0 : ∀ o, (W1.alloc o).cell? ⟨w.heap.size, 0, none⟩ = some (.int .i64 m.kind) := fun o => by rw [Lib.cell_of_heap (hb0 o)]; rfl
  have hb1 : ∀ o, (W1.alloc o).heap[w.heap.size + 1]? = some (.cells zeroL 35 (0, 0)) := fun o => by
    rw [Below.heap_alloc _ _ _ (by rw [← hW, World.size_alloc, World.size_alloc]; omega), ← hW, show w.heap.size + 1 = (w.alloc (msgO m A c L d)).heap.size from (World.size_alloc _ _).symm, heap_alloc_new]
  have HB1 := hide hb1
  have BW := hide (show Below w.heap.size w W1 by rw [← hW]; exact ((Below.refl _ _).alloc (Nat.le_refl _) _).alloc (by rw [World.size_alloc]; omega) _)
  clear hA hb0 hb1
  go_enter Tryz.func34, Tryz.ntmps34
  go_wp2_with (first
    | (refine wpList_storeM_new rfl { msg0 with kind := m.kind, port := m.port, num := m.num } none 0 none 0 rfl _ _ rfl rfl rfl rfl ?_)
    | (refine wpList_storeM_new rfl m A c L d rfl _ _ rfl rfl rfl rfl ?_)
    | (refine wpList_storeM (unhide HB1 _) { m with inn := lg0, node := ByteArray.empty, lst := [] } A c none 0 rfl _ _ rfl rfl rfl rfl ?_)
    | (refine wpList_loadM (m := { m with inn := lg0, node := ByteArray.empty, lst := [] }) (A := A) (c := c) (L := none) (d := 0) (heap_alloc_new W1 _) rfl _ rfl rfl ?_)
    | (refine wpList_loadM (unhide HB0 _) rfl _ rfl rfl ?_))
  rw [unhide HV]
  have hR := setRow_heap (W1.alloc (msgO { m with inn := lg0, node := ByteArray.empty, lst := [] } A c none 0)) (w.heap.size + 1) zeroL (msgL { m with inn := lg0, node := ByteArray.empty, lst := [] } A c none 0) _ _ (unhide HB1 _)
  have hB : Below w.heap.size w ((W1.alloc (msgO { m with inn := lg0, node := ByteArray.empty, lst := [] } A c none 0)).setRow (w.heap.size + 1) (msgL { m with inn := lg0, node := ByteArray.empty, lst := [] } A c none 0)) := below_setRow (below_new (unhide BW) _) (by omega) _
  exact bodyPost_ret (results_cell_row rfl _ _ (w.heap.size + 1) _ _ _ _ rfl hR undM' undM infoM) rfl ⟨rfl, (unhide H1).keep hB, NumsIn.nil _ _ _, hB⟩

set_option maxHeartbeats 8000000 in
set_option maxRecDepth 100000 in
theorem own_2 (b : Nat) (m : Msg) (A L : Option Addr) (c d : Nat) (w : World) (hk : m.kind = 2) (h1 : LegsIn b w A m.onw) :
    Calls Tryz.prog 34 #[msgV m A c L d] w (GivesMV b w (ownM m) A c none 0) := by
  have HV := hide (show ownM m = { m with node := ByteArray.empty, lst := [] } by unfold ownM; rw [if_neg (by omega)]; rw [if_pos hk])
  have H1 := hide h1
  have t1 : (m.kind == 1) = false := by rw [hk]; rfl
  have t2 : (m.kind == 2) = true := by rw [hk]; rfl
  clear h1 hk
  obtain ⟨W1, hW⟩ : ∃ W1 : World, (w.alloc (msgO m A c L d)).alloc (.cells zeroL 35) = W1 := ⟨_, rfl⟩
  have hA : ∀ k v, (msgL m A c L d)[k]? = some v → W1.cell? ⟨w.heap.size, k, none⟩ = some v := fun k v hk => by rw [← hW]; exact box_cell hk
  have z0 := hA 0 _ rfl
  have z2 := hA 2 _ rfl
  have z3 := hA 3 _ rfl
  have hb0 : ∀ o, (W1.alloc o).heap[w.heap.size]? = some (msgO m A c L d) := fun o => by
    rw [Below.heap_alloc _ _ _ (by rw [← hW, World.size_alloc, World.size_alloc]; omega), ← hW, Below.heap_alloc _ _ _ (by rw [World.size_alloc]; omega), heap_alloc_new]
  have HB0 := hide hb0
  have y0 : ∀ o, (W1.alloc o).cell? ⟨w.heap.size, 0, none⟩ = some (.int .i64 m.kind) := fun o => by rw [Lib.cell_of_heap (hb0 o)]; rfl
  have hb1 : ∀ o, (W1.alloc o).heap[w.heap.size + 1]? = some (.cells zeroL 35 (0, 0)) := fun o => by
    rw [Below.heap_alloc _ _ _ (by rw [← hW, World.size_alloc, World.size_alloc]; omega), ← hW, show w.heap.size + 1 = (w.alloc (msgO m A c L d)).heap.size from (World.size_alloc _ _).symm, heap_alloc_new]
  have HB1 := hide hb1
  have BW := hide (show Below w.heap.size w W1 by rw [← hW]; exact ((Below.refl _ _).alloc (Nat.le_refl _) _).alloc (by rw [World.size_alloc]; omega) _)
  clear hA hb0 hb1
  go_enter Tryz.func34, Tryz.ntmps34
  go_wp2_with (first
    | (refine wpList_storeM_new rfl { msg0 with kind := m.kind, port := m.port, num := m.num } none 0 none 0 rfl _ _ rfl rfl rfl rfl ?_)
    | (refine wpList_storeM_new rfl m A c L d rfl _ _ rfl rfl rfl rfl ?_)
    | (refine wpList_storeM (unhide HB1 _) { m with node := ByteArray.empty, lst := [] } A c none 0 rfl _ _ rfl rfl rfl rfl ?_)
    | (refine wpList_loadM (m := { m with node := ByteArray.empty, lst := [] }) (A := A) (c := c) (L := none) (d := 0) (heap_alloc_new W1 _) rfl _ rfl rfl ?_)
    | (refine wpList_loadM (unhide HB0 _) rfl _ rfl rfl ?_))
  rw [unhide HV]
  have hR := setRow_heap (W1.alloc (msgO { m with node := ByteArray.empty, lst := [] } A c none 0)) (w.heap.size + 1) zeroL (msgL { m with node := ByteArray.empty, lst := [] } A c none 0) _ _ (unhide HB1 _)
  have hB : Below w.heap.size w ((W1.alloc (msgO { m with node := ByteArray.empty, lst := [] } A c none 0)).setRow (w.heap.size + 1) (msgL { m with node := ByteArray.empty, lst := [] } A c none 0)) := below_setRow (below_new (unhide BW) _) (by omega) _
  exact bodyPost_ret (results_cell_row rfl _ _ (w.heap.size + 1) _ _ _ _ rfl hR undM' undM infoM) rfl ⟨rfl, (unhide H1).keep hB, NumsIn.nil _ _ _, hB⟩

set_option maxHeartbeats 8000000 in
set_option maxRecDepth 100000 in
theorem own_3 (b : Nat) (m : Msg) (A L : Option Addr) (c d : Nat) (w : World) (hk : m.kind = 3)  :
    Calls Tryz.prog 34 #[msgV m A c L d] w (GivesMV b w (ownM m) none 0 none 0) := by
  have HV := hide (show ownM m = { msg0 with kind := m.kind, port := m.port, num := m.num, pl := m.pl, pa := m.pa, ps := m.ps, cnt := m.cnt, node := m.node } by unfold ownM; rw [if_neg (by omega)]; rw [if_neg (by omega)]; rw [if_pos hk])
  have t1 : (m.kind == 1) = false := by rw [hk]; rfl
  have t2 : (m.kind == 2) = false := by rw [hk]; rfl
  have t3 : (m.kind == 3) = true := by rw [hk]; rfl
  clear hk
  obtain ⟨W1, hW⟩ : ∃ W1 : World, (w.alloc (msgO m A c L d)).alloc (.cells zeroL 35) = W1 := ⟨_, rfl⟩
  have hA : ∀ k v, (msgL m A c L d)[k]? = some v → W1.cell? ⟨w.heap.size, k, none⟩ = some v := fun k v hk => by rw [← hW]; exact box_cell hk
  have z0 := hA 0 _ rfl
  have z2 := hA 2 _ rfl
  have z3 := hA 3 _ rfl
  have hb0 : ∀ o, (W1.alloc o).heap[w.heap.size]? = some (msgO m A c L d) := fun o => by
    rw [Below.heap_alloc _ _ _ (by rw [← hW, World.size_alloc, World.size_alloc]; omega), ← hW, Below.heap_alloc _ _ _ (by rw [World.size_alloc]; omega), heap_alloc_new]
  have HB0 := hide hb0
  have y0 : ∀ o, (W1.alloc o).cell? ⟨w.heap.size, 0, none⟩ = some (.int .i64 m.kind) := fun o => by rw [Lib.cell_of_heap (hb0 o)]; rfl
  have y17 : ∀ o, (W1.alloc o).cell? ⟨w.heap.size, 17, none⟩ = some (.int .i64 m.pl) := fun o => by rw [Lib.cell_of_heap (hb0 o)]; rfl
  have y18 : ∀ o, (W1.alloc o).cell? ⟨w.heap.size, 18, none⟩ = some (.int .i64 m.pa) := fun o => by rw [Lib.cell_of_heap (hb0 o)]; rfl
  have y19 : ∀ o, (W1.alloc o).cell? ⟨w.heap.size, 19, none⟩ = some (.int .i64 m.ps) := fun o => by rw [Lib.cell_of_heap (hb0 o)]; rfl
  have y20 : ∀ o, (W1.alloc o).cell? ⟨w.heap.size, 20, none⟩ = some (.int .i64 m.cnt) := fun o => by rw [Lib.cell_of_heap (hb0 o)]; rfl
  have y28 : ∀ o, (W1.alloc o).cell? ⟨w.heap.size, 28, none⟩ = some (.string m.node) := fun o => by rw [Lib.cell_of_heap (hb0 o)]; rfl
  have hb1 : ∀ o, (W1.alloc o).heap[w.heap.size + 1]? = some (.cells zeroL 35 (0, 0)) := fun o => by
    rw [Below.heap_alloc _ _ _ (by rw [← hW, World.size_alloc, World.size_alloc]; omega), ← hW, show w.heap.size + 1 = (w.alloc (msgO m A c L d)).heap.size from (World.size_alloc _ _).symm, heap_alloc_new]
  have HB1 := hide hb1
  have BW := hide (show Below w.heap.size w W1 by rw [← hW]; exact ((Below.refl _ _).alloc (Nat.le_refl _) _).alloc (by rw [World.size_alloc]; omega) _)
  clear hA hb0 hb1
  go_enter Tryz.func34, Tryz.ntmps34
  go_wp2_with (first
    | (refine wpList_storeM_new rfl { msg0 with kind := m.kind, port := m.port, num := m.num } none 0 none 0 rfl _ _ rfl rfl rfl rfl ?_)
    | (refine wpList_storeM (unhide HB1 _) { msg0 with kind := m.kind, port := m.port, num := m.num, pl := m.pl, pa := m.pa, ps := m.ps, cnt := m.cnt, node := m.node } none 0 none 0 rfl _ _ rfl rfl rfl rfl ?_)
    | (refine wpList_loadM (m := { msg0 with kind := m.kind, port := m.port, num := m.num, pl := m.pl, pa := m.pa, ps := m.ps, cnt := m.cnt, node := m.node }) (A := none) (c := 0) (L := none) (d := 0) (heap_alloc_new W1 _) rfl _ rfl rfl ?_))
  go_region
  obtain ⟨W2, hW2⟩ : ∃ W2 : World, (W1.alloc (msgO { msg0 with kind := m.kind, port := m.port, num := m.num, pl := m.pl, pa := m.pa, ps := m.ps, cnt := m.cnt, node := m.node } none 0 none 0)).drew = W2 := ⟨_, rfl⟩
  have hx2 : W2.heap[W1.heap.size]? = some (msgO { msg0 with kind := m.kind, port := m.port, num := m.num, pl := m.pl, pa := m.pa, ps := m.ps, cnt := m.cnt, node := m.node } none 0 none 0) := by rw [← hW2]; exact heap_alloc_new W1 _
  have hy2 : W2.heap[w.heap.size + 1]? = some (.cells zeroL 35 (0, 0)) := by rw [← hW2]; exact unhide HB1 _
  have hB2 : Below w.heap.size w W2 := by rw [← hW2]; exact (below_new (unhide BW) _).drew
  have HX2 := hide hx2
  have HY2 := hide hy2
  have HB2 := hide hB2
  clear hx2 hy2 hB2
  change Exit.inBlock _ _ _ _ ((W1.alloc (msgO { msg0 with kind := m.kind, port := m.port, num := m.num, pl := m.pl, pa := m.pa, ps := m.ps, cnt := m.cnt, node := m.node } none 0 none 0)).drew)
  rw [hW2]
  clear hW2
  go_wp2_with (first
    | (refine wpList_storeM (unhide HY2) { msg0 with kind := m.kind, port := m.port, num := m.num, pl := m.pl, pa := m.pa, ps := m.ps, cnt := m.cnt, node := m.node } none 0 none 0 rfl _ _ rfl rfl rfl rfl ?_)
    | (refine wpList_loadM (m := { msg0 with kind := m.kind, port := m.port, num := m.num, pl := m.pl, pa := m.pa, ps := m.ps, cnt := m.cnt, node := m.node }) (A := none) (c := 0) (L := none) (d := 0) (unhide HX2) rfl _ rfl rfl ?_))
  rw [unhide HV]
  have hR := setRow_heap W2 (w.heap.size + 1) zeroL (msgL { msg0 with kind := m.kind, port := m.port, num := m.num, pl := m.pl, pa := m.pa, ps := m.ps, cnt := m.cnt, node := m.node } none 0 none 0) _ _ (unhide HY2)
  have hB : Below w.heap.size w (W2.setRow (w.heap.size + 1) (msgL { msg0 with kind := m.kind, port := m.port, num := m.num, pl := m.pl, pa := m.pa, ps := m.ps, cnt := m.cnt, node := m.node } none 0 none 0)) := below_setRow (unhide HB2) (by omega) _
  exact bodyPost_ret (results_cell_row rfl _ _ (w.heap.size + 1) _ _ _ _ rfl hR undM' undM infoM) rfl ⟨rfl, LegsIn.nil _ _ _, NumsIn.nil _ _ _, hB⟩

set_option maxHeartbeats 8000000 in
set_option maxRecDepth 100000 in
theorem own_4 (b : Nat) (m : Msg) (A L : Option Addr) (c d : Nat) (w : World) (hk : m.kind = 4)  :
    Calls Tryz.prog 34 #[msgV m A c L d] w (GivesMV b w (ownM m) none 0 none 0) := by
  have HV := hide (show ownM m = { msg0 with kind := m.kind, port := m.port, num := m.num, out := m.out, pl := m.pl, pa := m.pa, ps := m.ps, cnt := m.cnt } by unfold ownM; rw [if_neg (by omega)]; rw [if_neg (by omega)]; rw [if_neg (by omega)]; rw [if_pos hk])
  have t1 : (m.kind == 1) = false := by rw [hk]; rfl
  have t2 : (m.kind == 2) = false := by rw [hk]; rfl
  have t3 : (m.kind == 3) = false := by rw [hk]; rfl
  have t4 : (m.kind == 4) = true := by rw [hk]; rfl
  clear hk
  obtain ⟨W1, hW⟩ : ∃ W1 : World, (w.alloc (msgO m A c L d)).alloc (.cells zeroL 35) = W1 := ⟨_, rfl⟩
  have hA : ∀ k v, (msgL m A c L d)[k]? = some v → W1.cell? ⟨w.heap.size, k, none⟩ = some v := fun k v hk => by rw [← hW]; exact box_cell hk
  have z0 := hA 0 _ rfl
  have z2 := hA 2 _ rfl
  have z3 := hA 3 _ rfl
  have hb0 : ∀ o, (W1.alloc o).heap[w.heap.size]? = some (msgO m A c L d) := fun o => by
    rw [Below.heap_alloc _ _ _ (by rw [← hW, World.size_alloc, World.size_alloc]; omega), ← hW, Below.heap_alloc _ _ _ (by rw [World.size_alloc]; omega), heap_alloc_new]
  have HB0 := hide hb0
  have y0 : ∀ o, (W1.alloc o).cell? ⟨w.heap.size, 0, none⟩ = some (.int .i64 m.kind) := fun o => by rw [Lib.cell_of_heap (hb0 o)]; rfl
  have y10 : ∀ o, (W1.alloc o).cell? ⟨w.heap.size, 10, none⟩ = some (.string m.out.c) := fun o => by rw [Lib.cell_of_heap (hb0 o)]; rfl
  have y11 : ∀ o, (W1.alloc o).cell? ⟨w.heap.size, 11, none⟩ = some (.int .i64 m.out.n) := fun o => by rw [Lib.cell_of_heap (hb0 o)]; rfl
  have y12 : ∀ o, (W1.alloc o).cell? ⟨w.heap.size, 12, none⟩ = some (.string m.out.s) := fun o => by rw [Lib.cell_of_heap (hb0 o)]; rfl
  have y13 : ∀ o, (W1.alloc o).cell? ⟨w.heap.size, 13, none⟩ = some (.int .i64 m.out.d) := fun o => by rw [Lib.cell_of_heap (hb0 o)]; rfl
  have y14 : ∀ o, (W1.alloc o).cell? ⟨w.heap.size, 14, none⟩ = some (.string m.out.p) := fun o => by rw [Lib.cell_of_heap (hb0 o)]; rfl
  have y15 : ∀ o, (W1.alloc o).cell? ⟨w.heap.size, 15, none⟩ = some (.string m.out.k) := fun o => by rw [Lib.cell_of_heap (hb0 o)]; rfl
  have y17 : ∀ o, (W1.alloc o).cell? ⟨w.heap.size, 17, none⟩ = some (.int .i64 m.pl) := fun o => by rw [Lib.cell_of_heap (hb0 o)]; rfl
  have y18 : ∀ o, (W1.alloc o).cell? ⟨w.heap.size, 18, none⟩ = some (.int .i64 m.pa) := fun o => by rw [Lib.cell_of_heap (hb0 o)]; rfl
  have y19 : ∀ o, (W1.alloc o).cell? ⟨w.heap.size, 19, none⟩ = some (.int .i64 m.ps) := fun o => by rw [Lib.cell_of_heap (hb0 o)]; rfl
  have y20 : ∀ o, (W1.alloc o).cell? ⟨w.heap.size, 20, none⟩ = some (.int .i64 m.cnt) := fun o => by rw [Lib.cell_of_heap (hb0 o)]; rfl
  have hb1 : ∀ o, (W1.alloc o).heap[w.heap.size + 1]? = some (.cells zeroL 35 (0, 0)) := fun o => by
    rw [Below.heap_alloc _ _ _ (by rw [← hW, World.size_alloc, World.size_alloc]; omega), ← hW, show w.heap.size + 1 = (w.alloc (msgO m A c L d)).heap.size from (World.size_alloc _ _).symm, heap_alloc_new]
  have HB1 := hide hb1
  have BW := hide (show Below w.heap.size w W1 by rw [← hW]; exact ((Below.refl _ _).alloc (Nat.le_refl _) _).alloc (by rw [World.size_alloc]; omega) _)
  clear hA hb0 hb1
  go_enter Tryz.func34, Tryz.ntmps34
  go_wp2_with (first
    | (refine wpList_storeM_new rfl { msg0 with kind := m.kind, port := m.port, num := m.num } none 0 none 0 rfl _ _ rfl rfl rfl rfl ?_)
    | (refine wpList_storeM (unhide HB1 _) { msg0 with kind := m.kind, port := m.port, num := m.num, out := m.out, pl := m.pl, pa := m.pa, ps := m.ps, cnt := m.cnt } none 0 none 0 rfl _ _ rfl rfl rfl rfl ?_)
    | (refine wpList_loadM (m := { msg0 with kind := m.kind, port := m.port, num := m.num, out := m.out, pl := m.pl, pa := m.pa, ps := m.ps, cnt := m.cnt }) (A := none) (c := 0) (L := none) (d := 0) (heap_alloc_new W1 _) rfl _ rfl rfl ?_))
  go_region
  obtain ⟨W2, hW2⟩ : ∃ W2 : World, (W1.alloc (msgO { msg0 with kind := m.kind, port := m.port, num := m.num, out := m.out, pl := m.pl, pa := m.pa, ps := m.ps, cnt := m.cnt } none 0 none 0)).drew = W2 := ⟨_, rfl⟩
  have hx2 : W2.heap[W1.heap.size]? = some (msgO { msg0 with kind := m.kind, port := m.port, num := m.num, out := m.out, pl := m.pl, pa := m.pa, ps := m.ps, cnt := m.cnt } none 0 none 0) := by rw [← hW2]; exact heap_alloc_new W1 _
  have hy2 : W2.heap[w.heap.size + 1]? = some (.cells zeroL 35 (0, 0)) := by rw [← hW2]; exact unhide HB1 _
  have hB2 : Below w.heap.size w W2 := by rw [← hW2]; exact (below_new (unhide BW) _).drew
  have HX2 := hide hx2
  have HY2 := hide hy2
  have HB2 := hide hB2
  clear hx2 hy2 hB2
  change Exit.inBlock _ _ _ _ ((W1.alloc (msgO { msg0 with kind := m.kind, port := m.port, num := m.num, out := m.out, pl := m.pl, pa := m.pa, ps := m.ps, cnt := m.cnt } none 0 none 0)).drew)
  rw [hW2]
  clear hW2
  go_wp2_with (first
    | (refine wpList_storeM (unhide HY2) { msg0 with kind := m.kind, port := m.port, num := m.num, out := m.out, pl := m.pl, pa := m.pa, ps := m.ps, cnt := m.cnt } none 0 none 0 rfl _ _ rfl rfl rfl rfl ?_)
    | (refine wpList_loadM (m := { msg0 with kind := m.kind, port := m.port, num := m.num, out := m.out, pl := m.pl, pa := m.pa, ps := m.ps, cnt := m.cnt }) (A := none) (c := 0) (L := none) (d := 0) (unhide HX2) rfl _ rfl rfl ?_))
  rw [unhide HV]
  have hR := setRow_heap W2 (w.heap.size + 1) zeroL (msgL { msg0 with kind := m.kind, port := m.port, num := m.num, out := m.out, pl := m.pl, pa := m.pa, ps := m.ps, cnt := m.cnt } none 0 none 0) _ _ (unhide HY2)
  have hB : Below w.heap.size w (W2.setRow (w.heap.size + 1) (msgL { msg0 with kind := m.kind, port := m.port, num := m.num, out := m.out, pl := m.pl, pa := m.pa, ps := m.ps, cnt := m.cnt } none 0 none 0)) := below_setRow (unhide HB2) (by omega) _
  exact bodyPost_ret (results_cell_row rfl _ _ (w.heap.size + 1) _ _ _ _ rfl hR undM' undM infoM) rfl ⟨rfl, LegsIn.nil _ _ _, NumsIn.nil _ _ _, hB⟩

set_option maxHeartbeats 8000000 in
set_option maxRecDepth 100000 in
theorem own_5 (b : Nat) (m : Msg) (A L : Option Addr) (c d : Nat) (w : World) (hk : m.kind = 5) (h1 : NumsIn b w L m.lst) :
    Calls Tryz.prog 34 #[msgV m A c L d] w (GivesMV b w (ownM m) none 0 L d) := by
  have HV := hide (show ownM m = { msg0 with kind := m.kind, port := m.port, num := m.num, out := m.out, lst := m.lst } by unfold ownM; rw [if_neg (by omega)]; rw [if_neg (by omega)]; rw [if_neg (by omega)]; rw [if_neg (by omega)]; rw [if_pos hk])
  have H1 := hide h1
  have t1 : (m.kind == 1) = false := by rw [hk]; rfl
  have t2 : (m.kind == 2) = false := by rw [hk]; rfl
  have t3 : (m.kind == 3) = false := by rw [hk]; rfl
  have t4 : (m.kind == 4) = false := by rw [hk]; rfl
  have t5 : (m.kind == 5) = true := by rw [hk]; rfl
  clear h1 hk
  obtain ⟨W1, hW⟩ : ∃ W1 : World, (w.alloc (msgO m A c L d)).alloc (.cells zeroL 35) = W1 := ⟨_, rfl⟩
  have hA : ∀ k v, (msgL m A c L d)[k]? = some v → W1.cell? ⟨w.heap.size, k, none⟩ = some v := fun k v hk => by rw [← hW]; exact box_cell hk
  have z0 := hA 0 _ rfl
  have z2 := hA 2 _ rfl
  have z3 := hA 3 _ rfl
  have hb0 : ∀ o, (W1.alloc o).heap[w.heap.size]? = some (msgO m A c L d) := fun o => by
    rw [Below.heap_alloc _ _ _ (by rw [← hW, World.size_alloc, World.size_alloc]; omega), ← hW, Below.heap_alloc _ _ _ (by rw [World.size_alloc]; omega), heap_alloc_new]
  have HB0 := hide hb0
  have y0 : ∀ o, (W1.alloc o).cell? ⟨w.heap.size, 0, none⟩ = some (.int .i64 m.kind) := fun o => by rw [Lib.cell_of_heap (hb0 o)]; rfl
  have y10 : ∀ o, (W1.alloc o).cell? ⟨w.heap.size, 10, none⟩ = some (.string m.out.c) := fun o => by rw [Lib.cell_of_heap (hb0 o)]; rfl
  have y11 : ∀ o, (W1.alloc o).cell? ⟨w.heap.size, 11, none⟩ = some (.int .i64 m.out.n) := fun o => by rw [Lib.cell_of_heap (hb0 o)]; rfl
  have y12 : ∀ o, (W1.alloc o).cell? ⟨w.heap.size, 12, none⟩ = some (.string m.out.s) := fun o => by rw [Lib.cell_of_heap (hb0 o)]; rfl
  have y13 : ∀ o, (W1.alloc o).cell? ⟨w.heap.size, 13, none⟩ = some (.int .i64 m.out.d) := fun o => by rw [Lib.cell_of_heap (hb0 o)]; rfl
  have y14 : ∀ o, (W1.alloc o).cell? ⟨w.heap.size, 14, none⟩ = some (.string m.out.p) := fun o => by rw [Lib.cell_of_heap (hb0 o)]; rfl
  have y15 : ∀ o, (W1.alloc o).cell? ⟨w.heap.size, 15, none⟩ = some (.string m.out.k) := fun o => by rw [Lib.cell_of_heap (hb0 o)]; rfl
  have y29 : ∀ o, (W1.alloc o).cell? ⟨w.heap.size, 29, none⟩ = some (.slice L m.lst.length d) := fun o => by rw [Lib.cell_of_heap (hb0 o)]; rfl
  have hb1 : ∀ o, (W1.alloc o).heap[w.heap.size + 1]? = some (.cells zeroL 35 (0, 0)) := fun o => by
    rw [Below.heap_alloc _ _ _ (by rw [← hW, World.size_alloc, World.size_alloc]; omega), ← hW, show w.heap.size + 1 = (w.alloc (msgO m A c L d)).heap.size from (World.size_alloc _ _).symm, heap_alloc_new]
  have HB1 := hide hb1
  have BW := hide (show Below w.heap.size w W1 by rw [← hW]; exact ((Below.refl _ _).alloc (Nat.le_refl _) _).alloc (by rw [World.size_alloc]; omega) _)
  clear hA hb0 hb1
  go_enter Tryz.func34, Tryz.ntmps34
  go_wp2_with (first
    | (refine wpList_storeM_new rfl { msg0 with kind := m.kind, port := m.port, num := m.num } none 0 none 0 rfl _ _ rfl rfl rfl rfl ?_)
    | (refine wpList_storeM (unhide HB1 _) { msg0 with kind := m.kind, port := m.port, num := m.num, out := m.out, lst := m.lst } none 0 L d rfl _ _ rfl rfl rfl rfl ?_)
    | (refine wpList_loadM (m := { msg0 with kind := m.kind, port := m.port, num := m.num, out := m.out, lst := m.lst }) (A := none) (c := 0) (L := L) (d := d) (heap_alloc_new W1 _) rfl _ rfl rfl ?_))
  go_region
  obtain ⟨W2, hW2⟩ : ∃ W2 : World, (W1.alloc (msgO { msg0 with kind := m.kind, port := m.port, num := m.num, out := m.out, lst := m.lst } none 0 L d)).drew = W2 := ⟨_, rfl⟩
  have hx2 : W2.heap[W1.heap.size]? = some (msgO { msg0 with kind := m.kind, port := m.port, num := m.num, out := m.out, lst := m.lst } none 0 L d) := by rw [← hW2]; exact heap_alloc_new W1 _
  have hy2 : W2.heap[w.heap.size + 1]? = some (.cells zeroL 35 (0, 0)) := by rw [← hW2]; exact unhide HB1 _
  have hB2 : Below w.heap.size w W2 := by rw [← hW2]; exact (below_new (unhide BW) _).drew
  have HX2 := hide hx2
  have HY2 := hide hy2
  have HB2 := hide hB2
  clear hx2 hy2 hB2
  change Exit.inBlock _ _ _ _ ((W1.alloc (msgO { msg0 with kind := m.kind, port := m.port, num := m.num, out := m.out, lst := m.lst } none 0 L d)).drew)
  rw [hW2]
  clear hW2
  go_wp2_with (first
    | (refine wpList_storeM (unhide HY2) { msg0 with kind := m.kind, port := m.port, num := m.num, out := m.out, lst := m.lst } none 0 L d rfl _ _ rfl rfl rfl rfl ?_)
    | (refine wpList_loadM (m := { msg0 with kind := m.kind, port := m.port, num := m.num, out := m.out, lst := m.lst }) (A := none) (c := 0) (L := L) (d := d) (unhide HX2) rfl _ rfl rfl ?_))
  rw [unhide HV]
  have hR := setRow_heap W2 (w.heap.size + 1) zeroL (msgL { msg0 with kind := m.kind, port := m.port, num := m.num, out := m.out, lst := m.lst } none 0 L d) _ _ (unhide HY2)
  have hB : Below w.heap.size w (W2.setRow (w.heap.size + 1) (msgL { msg0 with kind := m.kind, port := m.port, num := m.num, out := m.out, lst := m.lst } none 0 L d)) := below_setRow (unhide HB2) (by omega) _
  exact bodyPost_ret (results_cell_row rfl _ _ (w.heap.size + 1) _ _ _ _ rfl hR undM' undM infoM) rfl ⟨rfl, LegsIn.nil _ _ _, (unhide H1).keep hB, hB⟩

theorem own_any (b : Nat) (m : Msg) (A L : Option Addr) (c d : Nat) (hk : kindB m = true) : ∃ A' c' L' d', ∀ w, LegsIn b w A m.onw → NumsIn b w L m.lst →
    Calls Tryz.prog 34 #[msgV m A c L d] w (GivesMV b w (ownM m) A' c' L' d') := by
  obtain ⟨k0, k1⟩ := inB_iff.1 (show inB m.kind 1 5 = true from hk)
  have : m.kind = 1 ∨ m.kind = 2 ∨ m.kind = 3 ∨ m.kind = 4 ∨ m.kind = 5 := by omega
  rcases this with h | h | h | h | h
  · exact ⟨_, _, _, _, fun w h1 _ => own_1 b m A L c d w h h1⟩
  · exact ⟨_, _, _, _, fun w h1 _ => own_2 b m A L c d w h h1⟩
  · exact ⟨_, _, _, _, fun w _ _ => own_3 b m A L c d w h⟩
  · exact ⟨_, _, _, _, fun w _ _ => own_4 b m A L c d w h⟩
  · exact ⟨_, _, _, _, fun w _ h2 => own_5 b m A L c d w h h2⟩
end Go.Proofs.YtglgobmmmghdoaaGreatDoor
