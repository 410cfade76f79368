/- The 64 words of a block, as the program reckons them. Conditions: a block is 64 bytes. -/
import Derived.Test.YtilfmemfnheppaaDoorC
import Derived.Deep.DrawnRows
namespace Go.Proofs.YtilfmemfnheppaaDoor
open Go.RowKit Hx
set_option linter.unusedVariables false

/-- four bytes of a block as a word -/
def wordB (blk : List Int) (i : Nat) : Int := numOf ((blk.drop (4 * i)).take 4)
/-- the first k words -/
def wd16 (blk : List Int) : Nat → List Int
  | 0 => []
  | k + 1 => wd16 blk k ++ [wordB blk k]
theorem wd16_len (blk : List Int) (k : Nat) : (wd16 blk k).length = k := by
  induction k with
  | zero => rfl
  | succ k ih => simp [wd16, ih]

def g0 (x : Int) : Int := bits .xor .u32 (bits .xor .u32 (rr x 7) (rr x 18)) (x / 8)
def g1 (x : Int) : Int := bits .xor .u32 (bits .xor .u32 (rr x 17) (rr x 19)) (x / 1024)
/-- the next word -/
def nxt (l : List Int) (i : Nat) : Int := (nth l (i - 16) + nth l (i - 7) + g0 (nth l (i - 15)) + g1 (nth l (i - 2))) % 4294967296
/-- the 16 words and k more -/
def ws (blk : List Int) : Nat → List Int
  | 0 => wd16 blk 16
  | k + 1 => ws blk k ++ [nxt (ws blk k) (16 + k)]
theorem ws_len (blk : List Int) (k : Nat) : (ws blk k).length = 16 + k := by
  induction k with
  | zero => exact wd16_len blk 16
  | succ k ih => simp [ws, ih]; omega

/-- 64 bytes -/
def Blk (b : List Int) : Prop := b.length = 64 ∧ ∀ x ∈ b, 0 ≤ x ∧ x ≤ 255

theorem wordB_wd {b : List Int} (h : Blk b) (i : Nat) (hi : i < 16) : Wd (wordB b i) := by
  unfold wordB Wd
  have hx : ∀ x ∈ (b.drop (4 * i)), 0 ≤ x ∧ x ≤ 255 := fun x hx => h.2 x (List.mem_of_mem_drop hx)
  have hl : 4 ≤ (b.drop (4 * i)).length := by simp [h.1]; omega
  have := numOf_bd hx 4 hl
  have e : (256 : Int) ^ 4 = 4294967296 := by decide
  omega
theorem wd16_wd {b : List Int} (h : Blk b) : ∀ k, k ≤ 16 → ∀ x ∈ wd16 b k, Wd x := by
  intro k
  induction k with
  | zero => intro _ x hx; simp [wd16] at hx
  | succ k ih =>
    intro hk x hx
    simp only [wd16, List.mem_append, List.mem_singleton] at hx
    rcases hx with hx | rfl
    · exact ih (by omega) x hx
    · exact wordB_wd h k (by omega)
theorem ws_wd {b : List Int} (h : Blk b) : ∀ k, ∀ x ∈ ws b k, Wd x := by
  intro k
  induction k with
  | zero => exact wd16_wd h 16 (by omega)
  | succ k ih =>
    intro x hx
    simp only [ws, List.mem_append, List.mem_singleton] at hx
    rcases hx with hx | rfl
    · exact ih x hx
    · exact md_wd _
theorem nth_wd {l : List Int} (h : ∀ x ∈ l, Wd x) (i : Nat) : Wd (nth l i) := by
  by_cases hi : i < l.length
  · rw [nth_eq l i hi]; exact h _ (List.getElem_mem hi)
  · unfold nth Wd; simp [List.getElem?_eq_none (Nat.le_of_not_lt hi)]

theorem set_next (l : List Int) (m : Nat) (v : Int) : (l ++ List.replicate (m + 1) 0).set l.length v = (l ++ [v]) ++ List.replicate m 0 := by
  rw [List.replicate_succ, List.set_append]
  simp
theorem nth_left (l r : List Int) (i : Nat) (h : i < l.length) : nth (l ++ r) i = nth l i := by
  unfold nth; simp [List.getElem?_append_left h]
theorem nth_take (l : List Int) (a n i : Nat) (h : i < n) (hl : a + i < l.length) : nth ((l.drop a).take n) i = nth l (a + i) := by
  rw [nth_eq l (a + i) hl, nth_eq _ i (by simp; omega)]
  simp

/-- a part of an array, as a slice -/
theorem Row.part {w : World} {g : Nat} {xs : List Int} (h : Row w g .u8 xs) (hx : ∀ x ∈ xs, 0 ≤ x ∧ x ≤ 255) (a n cap : Nat) (h1 : a + n ≤ xs.length) (h2 : n ≤ cap) (h3 : n ≤ 1000000) :
    Sl w (.slice (some ⟨g, a, none⟩) n cap) ((xs.drop a).take n) := by
  have hl : ((xs.drop a).take n).length = n := by simp; omega
  refine ⟨some ⟨g, a, none⟩, cap, by rw [hl], fun x hm => hx x (List.mem_of_mem_drop (List.mem_of_mem_take hm)), by omega, by omega, fun _ => ⟨g, a, rfl, h.lt, fun i hi => ?_⟩⟩
  rw [hl] at hi
  rw [h.cell (a + i) (by omega), nth_take xs a n i hi (by omega)]

theorem z64 (a : Nat) (h : a ≤ 63) : 64 - a = (64 - (a + 1)) + 1 := by omega

theorem Tryd.arr59 : Tryd.prog.underlying 59 = some (.array (Tryd.prog.arrayLen 59) (Tryd.prog.elem 59)) := by kernel_rfl
theorem Tryd.len59 : Tryd.prog.arrayLen 59 = 64 := by kernel_rfl
theorem Tryd.elem59 : Tryd.prog.elem 59 = 5 := by kernel_rfl
theorem slice30 (w : World) (p k : Nat) (hk : k < 16) : (Instr.sliceAt 59 (.pointer (some ⟨p, 0, none⟩)) (some (.int .i64 (4 * (k : Int)))) (some (.int .i64 (4 * ((k : Int) + 1)))) none).run Tryd.prog w =
    .ok (.slice (some ⟨p, 4 * k, none⟩) 4 (64 - 4 * k)) w := by
  have e1 : (4 * (k : Int)).toNat = 4 * k := by omega
  have e2 : (4 * ((k : Int) + 1)).toNat = 4 * k + 4 := by omega
  have e3 : (⟨p, 0, none⟩ : Addr).add (4 * k) = ⟨p, 4 * k, none⟩ := by rw [Addr.add_mid, Nat.zero_add]
  rw [run_sliceAt_array_lh w 59 _ Tryd.arr59 .i64 .i64 _ _ (by omega) (by omega) (by rw [Tryd.len59]; omega), Tryd.elem59, Tryd.sizeOf5, Tryd.len59, e1, e2]
  simp only [Result.andThen_ok, slicedAt, Nat.mul_one, e3]
  rw [if_neg (by omega), show 4 * k + 4 - 4 * k = 4 by omega]

/-- a new array of noughts, by the slot that its address goes to -/
theorem wp_allocD {P : Program} {ops : Array Oper} {rest : List Oper} {o : Oper} {a : Act} {w : World} {Q : Exit → Act → World → Prop} (d : Tmp) (ty : TypeId) (k : IntKind) (n : Nat)
    (hz : (P.info? ty).bind (·.zero) = some (arr k (List.replicate n 0))) (hop : o.guard = none ∧ o.op = .alloc ty ∧ o.dst = some d)
    (hK : ∀ g w', w.heap.size ≤ g → Row w' g k (List.replicate n 0) → Below w.heap.size w w' → wpList P ops Q rest (a.put o.dst (.pointer (some ⟨g, 0, none⟩))) w') : wpList P ops Q (o :: rest) a w :=
  wp_allocR ty k n hz ⟨hop.1, hop.2.1⟩ hK

theorem wrap_small (n : Int) (h0 : 0 ≤ n) (h1 : n ≤ 1000000) : IntKind.i64.wrap n = n := by
  simp [IntKind.wrap, IntKind.bits, IntKind.signed]
  omega

theorem next_row {w : World} {p k j : Nat} {blk : List Int} {v : Int} (h : Row w p .u32 (ws blk k ++ List.replicate (48 - k) 0)) (hk : k < 48) (hj : j = 16 + k) (hv : v = nxt (ws blk k) (16 + k)) :
    Row (w.setCell ⟨p, j, none⟩ (.int .u32 v)) p .u32 (ws blk (k + 1) ++ List.replicate (48 - (k + 1)) 0) := by
  have h2 := h.set j v
  rw [show 48 - k = (48 - (k + 1)) + 1 by omega] at h2
  have e := set_next (ws blk k) (48 - (k + 1)) v
  rw [ws_len, ← hj] at e
  rw [e, hv] at h2
  rw [hv]
  exact h2

/-- the same with numbers that the goal tells -/
theorem right_gen (x n : Int) (hx : Wd x) (hn : 1 ≤ n ∧ n ≤ 31) (w : World) :
    Calls Tryd.prog 51 #[.int .u32 x, .int .i64 n] w fun e w' => e = .returned (.int .u32 (rr x n.toNat)) ∧ w' = w := by
  obtain ⟨m, rfl⟩ := Int.eq_ofNat_of_zero_le (show 0 ≤ n by omega)
  exact right_any x m (by omega) (by omega) hx.1 hx.2 w

attribute [local go_sem ↓] Go.wp_at_zero Go.wp_at_succ
set_option maxRecDepth 100000 in
set_option maxHeartbeats 1000000 in
theorem spread_any (blk : List Int) (hB : Blk blk) (w : World) :
    Calls Tryd.prog 42 #[arr .u8 blk] w fun en w' => en = .returned (arr .u32 (ws blk 48)) ∧ Below w.heap.size w w' := by
  go_enter Tryd.func42, Tryd.ntmps42
  go_wp2_with (first
    | ((with_reducible refine wp_boxR 59 (.tmp 0) .u8 blk ?_ ?_ ?_); (exact rfl); (exact ⟨rfl, rfl⟩); intro p1 w1 hg1 hr1 hb1)
    | ((with_reducible refine wp_allocD 2 79 .u32 64 Tryd.zero79 ?_ ?_); (exact ⟨rfl, rfl, rfl⟩); intro p2 w2 hg2 hr2 hb2)
    | ((with_reducible refine wp_allocD 3 79 .u32 64 Tryd.zero79 ?_ ?_); (exact ⟨rfl, rfl, rfl⟩); intro p3 w3 hg3 hr3 hb3))
  have HI : Hid (Row w3 p1 .u8 blk ∧ Row w3 p2 .u32 (List.replicate 64 0) ∧ Row w3 p3 .u32 (List.replicate 64 0) ∧ Below w.heap.size w w3) :=
    ⟨(hr1.later hb2).later hb3, hr2.later hb3, hr3, below_next (below_next hb1 hb2) hb3⟩
  have q1 : w.heap.size ≤ p2 := Nat.le_trans hb1.size hg2
  have q2 : w.heap.size ≤ p3 := Nat.le_trans (Nat.le_trans hb1.size hb2.size) hg3
  have q3 : p1 < p2 := Nat.lt_of_lt_of_le hr1.lt hg2
  have q4 : p2 < p3 := Nat.lt_of_lt_of_le hr2.lt hg3
  clear hr1 hr2 hr3 hb1 hb2 hb3 hg1 hg2 hg3
  go_loopw [10] (fun i wr => ∃ k : Nat, k ≤ 16 ∧ i = .int .i64 k ∧ Hid (Row wr p1 .u8 blk ∧ Row wr p2 .u32 (List.replicate 64 0) ∧ Row wr p3 .u32 (wd16 blk k ++ List.replicate (64 - k) 0) ∧ Below w.heap.size w wr)) (fun i _ => 16 - (intOf i).toNat)
  case atStart => exact ⟨0, by omega, rfl, HI.out⟩
  case round =>
    clear HI
    obtain ⟨k, hk, rfl, HI⟩ := hrel
    by_cases hlt : k < 16
    · obtain ⟨r1, r2, r3, hb⟩ := HI.out
      have hlt' : (k : Int) < 16 := by omega
      have hk64 : (k : Int) < 64 := by omega
      have hk0 : (0 : Int) ≤ (k : Int) := by omega
      have hs := slice30 wr p1 k hlt
      have HS := r1.part hB.2 (4 * k) 4 (64 - 4 * k) (by rw [hB.1]; omega) (by omega) (by omega)
      have HS' : Hid (Sl wr (.slice (some ⟨p1, 4 * k, none⟩) 4 (64 - 4 * k)) ((blk.drop (4 * k)).take 4)) := HS
      have HL : Hid (((blk.drop (4 * k)).take 4).length ≤ 8) := by show _ ≤ 8; simp; omega
      obtain ⟨X, hX⟩ : ∃ X, X = wordB blk k := ⟨_, rfl⟩
      have HX : Hid (wordB blk k = X) := hX.symm
      have HX2 : Hid (numOf ((blk.drop (4 * k)).take 4) = X) := hX.symm
      obtain ⟨x0, x1⟩ : Wd X := by rw [hX]; exact wordB_wd hB k hlt
      clear r1 r2 r3 hb HS hX
      go_wp2_with fail
      refine (num_any _ _ _ HS'.out HL.out).mono ?_
      rintro e w4 ⟨rfl, hb4⟩
      rw [HX2.out]
      obtain ⟨r1, r2, r3, hb⟩ := HI.out
      have r3' := r3.later hb4
      have c1 := r3'.cell k (by simp [wd16_len]; omega)
      have f1 := r3'.froz k
      have HJ : Hid (Row w4 p1 .u8 blk ∧ Row w4 p2 .u32 (List.replicate 64 0) ∧ Row w4 p3 .u32 (wd16 blk k ++ List.replicate (64 - k) 0) ∧ Below w.heap.size w w4) :=
        ⟨r1.later hb4, r2.later hb4, r3', below_next hb hb4⟩
      clear r1 r2 r3 hb hs r3' hb4
      generalize nth (wd16 blk k ++ List.replicate (64 - k) 0) k = z at c1
      go_wp2
      go_roundw
      case rel =>
        obtain ⟨r1, r2, r3, hb⟩ := HJ.out
        have ho := only_setCell w4 p3 k (.int .u32 X)
        refine ⟨k + 1, by omega, by go_num, r1.only ho (by omega), r2.only ho (by omega), ?_, below_only hb ho q2 (Nat.le_refl _)⟩
        have h := r3.set k X
        rw [z64 k (by omega)] at h
        have e := set_next (wd16 blk k) (64 - (k + 1)) X
        rw [wd16_len] at e
        rw [e] at h
        rw [← HX.out] at h ⊢
        exact h
      case measure => simp [intOf]; omega
    · have hk' : k = 16 := by omega
      subst hk'
      go_wp2_with fail
      go_loopw [7] (fun i wr => ∃ k j : Nat, k ≤ 48 ∧ Hid (j = 16 + k) ∧ i = .int .i64 j ∧ Hid (Row wr p2 .u32 (List.replicate 64 0) ∧ Row wr p3 .u32 (ws blk k ++ List.replicate (48 - k) 0) ∧ Below w.heap.size w wr)) (fun i _ => 64 - (intOf i).toNat)
      case atStart =>
        obtain ⟨r1, r2, r3, hb⟩ := HI.out
        exact ⟨0, 16, by omega, rfl, rfl, r2, r3, hb⟩
      case round =>
        clear HI hk hlt
        obtain ⟨k, j, hk, HJ, rfl, HI⟩ := hrel
        have hj := HJ.out
        by_cases hlt : k < 48
        · obtain ⟨r2, r3, hb⟩ := HI.out
          have hjl : (j : Int) < 64 := by omega
          have hj0 : (0 : Int) ≤ (j : Int) := by omega
          obtain ⟨x15, h15⟩ : ∃ x : Nat, x = j - 15 := ⟨_, rfl⟩
          obtain ⟨x2, h2⟩ : ∃ x : Nat, x = j - 2 := ⟨_, rfl⟩
          obtain ⟨x16, h16⟩ : ∃ x : Nat, x = j - 16 := ⟨_, rfl⟩
          obtain ⟨x7, h7⟩ : ∃ x : Nat, x = j - 7 := ⟨_, rfl⟩
          have e15 : (j : Int) - 15 = x15 := by omega
          have e2 : (j : Int) - 2 = x2 := by omega
          have e16 : (j : Int) - 16 = x16 := by omega
          have e7 : (j : Int) - 7 = x7 := by omega
          have v16 : IntKind.i64.wrap (x16 : Int) = x16 := wrap_small _ (by omega) (by omega)
          have v7 : IntKind.i64.wrap (x7 : Int) = x7 := wrap_small _ (by omega) (by omega)
          have y16 : ¬ j = x16 := by omega
          have y7 : ¬ j = x7 := by omega
          have u15 : (x15 : Int) < 64 := by omega
          have u2 : (x2 : Int) < 64 := by omega
          have u16 : (x16 : Int) < 64 := by omega
          have u7 : (x7 : Int) < 64 := by omega
          have hwl := ws_len blk k
          have hrl : (ws blk k ++ List.replicate (48 - k) (0 : Int)).length = 64 := by simp [hwl]; omega
          have c15 := r3.cell x15 (by omega)
          have c2 := r3.cell x2 (by omega)
          have c16 := r3.cell x16 (by omega)
          have c7 := r3.cell x7 (by omega)
          have cj := r3.cell j (by omega)
          have fj := r3.froz j
          rw [nth_left _ _ _ (by omega)] at c15 c2 c16 c7
          have HL := nth_wd (ws_wd hB k) x15
          have HH := nth_wd (ws_wd hB k) x2
          have HN : Hid (nxt (ws blk k) (16 + k) = (nth (ws blk k) x16 + nth (ws blk k) x7 + g0 (nth (ws blk k) x15) + g1 (nth (ws blk k) x2)) % 4294967296) := by
            show _ = _
            unfold nxt
            rw [h16, h7, h15, h2, hj]
          have k15 : Hid (x15 = j - 15 ∧ x2 = j - 2 ∧ x16 = j - 16 ∧ x7 = j - 7 ∧ j = 16 + k) := ⟨h15, h2, h16, h7, hj⟩
          clear r2 r3 hb hrl hwl h15 h2 h16 h7 hj
          generalize nth (ws blk k) x15 = L at *
          generalize nth (ws blk k) x2 = H at *
          generalize nth (ws blk k) x16 = A at *
          generalize nth (ws blk k) x7 = B at *
          generalize nth (ws blk k ++ List.replicate (48 - k) 0) j = z at *
          obtain ⟨l0, l1⟩ := HL
          obtain ⟨n0, n1⟩ := HH
          go_wp2
          go_quiet (fail)
          go_wp2
          go_region_held3 (fun w' => w'.cell? ⟨p3, x16, none⟩ = some (.int .u32 A) ∧ w'.cell? ⟨p3, x7, none⟩ = some (.int .u32 B)) (first | go_keep | (refine ⟨?_, ?_⟩ <;> rw [World.cell?_setCell_other _ _ _ _ (by first | (simp; done) | (simp; omega))] <;> go_simp))
            (first | (go_at_call 51; refine (right_gen _ _ (by first | exact ⟨l0, l1⟩ | exact ⟨n0, n1⟩) (by decide) _).mono ?_; rintro e w' ⟨rfl, rfl⟩))
          clear c15 c2 c16 c7 cj fj
          go_wp2
          go_roundw
          case rel =>
            (repeat apply Exists.intro)
            refine ⟨?_, rfl⟩
            have hj' := HJ.out
            obtain ⟨r2, r3, hb⟩ := HI.out
            have r2' : Row (wr.drewN (nq + 1)) p2 .u32 (List.replicate 64 0) := r2
            have r3' : Row (wr.drewN (nq + 1)) p3 .u32 (ws blk k ++ List.replicate (48 - k) 0) := r3
            refine ⟨k + 1, j + 1, by omega, (show j + 1 = 16 + (k + 1) by omega), by go_num, r2'.only (only_setCell _ _ _ _) (by omega), ?_, below_only (below_drewN hb _) (only_setCell _ _ _ _) q2 (Nat.le_refl _)⟩
            refine next_row r3' (by omega) hj' ?_
            rw [HN.out]
            unfold g0 g1
            omega
          case measure => simp [intOf]; omega
        · have hk' : k = 48 := by omega
          subst hk'
          have hj64 : j = 64 := by omega
          subst hj64
          obtain ⟨r2, r3, hb⟩ := HI.out
          rw [Nat.sub_self, List.replicate_zero, List.append_nil] at r3
          have h64 : (Tryd.prog.info? 79).map (·.size) = some (ws blk 48).length := by rw [ws_len]; exact Tryd.size79
          have R2 : Hid (Row wr p2 .u32 (List.replicate 64 0)) := r2
          have R3 : Hid (Row wr p3 .u32 (ws blk 48)) := r3
          have HB : Hid (Below w.heap.size w wr) := hb
          clear r2 r3 hb HI
          go_wp2_with (first
            | ((with_reducible refine wp_loadR 79 (.tmp 3) p3 .u32 (ws blk 48) _ Tryd.underlying79 rfl h64 ?_ ?_ R3.out ?_); (exact ⟨rfl, rfl⟩); (exact rfl))
            | ((with_reducible refine wp_storeR 79 (.tmp 2) (.tmp 69) p2 .u32 (List.replicate 64 0) (ws blk 48) h64 ?_ ?_ ?_ ?_ R2.out ?_); (rw [ws_len]; rfl); (exact ⟨rfl, rfl⟩); (exact rfl); (exact rfl); intro w4 r4 h4))
          refine ret_row rfl p2 .u32 (ws blk 48) _ Tryd.underlying79 rfl h64 rfl r4 rfl ⟨rfl, ?_⟩
          exact below_only HB.out h4 q1 (Nat.le_refl _)
end Go.Proofs.YtilfmemfnheppaaDoor
