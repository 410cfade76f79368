/- What a block turns eight words into, as the document reckons it. Conditions: a block is 64 bytes; words are numbers of 32 bits. -/
import Derived.Test.YtilfmemfnheppaaDoorF
namespace Go.Proofs.YtilfmemfnheppaaDoor
open Go.RowKit Hx
set_option linter.unusedVariables false

/-- the words of a block, of the next one k bytes -/
def wpart (blk : List Int) (i k : Nat) : List Int := wd16 blk i ++ (numOf ((blk.drop (4 * i)).take k) :: List.replicate (63 - i) 0)
theorem wpart_len (blk : List Int) (i k : Nat) (h : i < 64) : (wpart blk i k).length = 64 := by simp [wpart, wd16_len]; omega
theorem wpart_zero (blk : List Int) (i : Nat) (h : i < 64) : wpart blk i 0 = wd16 blk i ++ List.replicate (64 - i) 0 := by
  unfold wpart
  rw [show 64 - i = (63 - i) + 1 by omega, List.replicate_succ]
  rfl
theorem wpart_four (blk : List Int) (i : Nat) (h : i < 16) : wpart blk i 4 = wd16 blk (i + 1) ++ List.replicate (64 - (i + 1)) 0 := by
  unfold wpart
  rw [show 64 - (i + 1) = 63 - i by omega]
  simp [wd16, wordB]
theorem wpart_at (blk : List Int) (i k : Nat) (h : i < 64) : nth (wpart blk i k) i = numOf ((blk.drop (4 * i)).take k) := by
  rw [nth_eq _ i (by rw [wpart_len _ _ _ h]; exact h)]
  simp [wpart, wd16_len, List.getElem_append_right]
theorem wpart_set (blk : List Int) (hB : Blk blk) (i k : Nat) (h : i < 16) (hk : k < 4) :
    (wpart blk i k).set i (numOf ((blk.drop (4 * i)).take k) * 256 + nth blk (4 * i + k)) = wpart blk i (k + 1) := by
  have e := numOf_take (blk.drop (4 * i)) k (by simp [hB.1]; omega)
  have e2 : nth (blk.drop (4 * i)) k = nth blk (4 * i + k) := by
    unfold nth; simp
  unfold wpart
  rw [e, e2]
  rw [List.set_append, if_neg (by rw [wd16_len]; omega), wd16_len, Nat.sub_self]
  rfl
theorem wpart_bd {blk : List Int} (hB : Blk blk) (i k : Nat) (h : i < 16) (hk : k < 4) : 0 ≤ numOf ((blk.drop (4 * i)).take k) ∧ numOf ((blk.drop (4 * i)).take k) < 16777216 := by
  have hx : ∀ x ∈ (blk.drop (4 * i)), 0 ≤ x ∧ x ≤ 255 := fun x hx => hB.2 x (List.mem_of_mem_drop hx)
  have hl : k ≤ (blk.drop (4 * i)).length := by simp [hB.1]; omega
  have := numOf_bd hx k hl
  have e : (256 : Int) ^ k ≤ 16777216 := by
    match k, hk with
    | 0, _ => decide
    | 1, _ => decide
    | 2, _ => decide
    | 3, _ => decide
  omega

theorem next_row64 {w : World} {p k j : Nat} {blk : List Int} {v : Int} (h : Row w p .u64 (ws blk k ++ List.replicate (48 - k) 0)) (hk : k < 48) (hj : j = 16 + k) (hv : v = nxt (ws blk k) (16 + k)) :
    Row (w.setCell ⟨p, j, none⟩ (.int .u64 v)) p .u64 (ws blk (k + 1) ++ List.replicate (48 - (k + 1)) 0) := by
  have h2 := h.set j v
  rw [show 48 - k = (48 - (k + 1)) + 1 by omega] at h2
  have e := set_next (ws blk k) (48 - (k + 1)) v
  rw [ws_len, ← hj] at e
  rw [e, hv] at h2
  rw [hv]
  exact h2

theorem rnd_lit {A B C D E F G H n X : Int} (h : sx E F G H n = X) : rnd [A, B, C, D, E, F, G, H] n = [(X + sy A B C) % 4294967296, A, B, C, (D + X) % 4294967296, E, F, G] := by
  subst h; rfl
theorem sumW {a b t : Int} (h : t = (a + b) % 4294967296) (h0 : 0 ≤ a + b) (h1 : a + b < 18446744073709551616) : (IntKind.u64.wrap (a + b)).tmod 4294967296 = t := by
  rw [IntKind.wrap_u64, Int.emod_eq_of_lt h0 h1, Int.tmod_eq_emod_of_nonneg h0, h]
theorem set4a {w : World} {g : Nat} (h : Row w g .u64 (List.replicate 8 0)) (a b c d : Int) :
    Row ((((w.setCell ⟨g, 0, none⟩ (.int .u64 a)).setCell ⟨g, 1, none⟩ (.int .u64 b)).setCell ⟨g, 2, none⟩ (.int .u64 c)).setCell ⟨g, 3, none⟩ (.int .u64 d)).drew g .u64 [a, b, c, d, 0, 0, 0, 0] ∧
      Only g w ((((w.setCell ⟨g, 0, none⟩ (.int .u64 a)).setCell ⟨g, 1, none⟩ (.int .u64 b)).setCell ⟨g, 2, none⟩ (.int .u64 c)).setCell ⟨g, 3, none⟩ (.int .u64 d)).drew :=
  ⟨(((h.set 0 a).set 1 b).set 2 c).set 3 d, (((only_setCell w g 0 _).trans (only_setCell _ g 1 _)).trans (only_setCell _ g 2 _)).trans (only_setCell _ g 3 _) |>.drew⟩
theorem set4b {w : World} {g : Nat} {x y z u : Int} (h : Row w g .u64 [x, y, z, u, 0, 0, 0, 0]) (a b c d : Int) :
    Row ((((w.setCell ⟨g, 4, none⟩ (.int .u64 a)).setCell ⟨g, 5, none⟩ (.int .u64 b)).setCell ⟨g, 6, none⟩ (.int .u64 c)).setCell ⟨g, 7, none⟩ (.int .u64 d)).drew g .u64 [x, y, z, u, a, b, c, d] ∧
      Only g w ((((w.setCell ⟨g, 4, none⟩ (.int .u64 a)).setCell ⟨g, 5, none⟩ (.int .u64 b)).setCell ⟨g, 6, none⟩ (.int .u64 c)).setCell ⟨g, 7, none⟩ (.int .u64 d)).drew :=
  ⟨(((h.set 4 a).set 5 b).set 6 c).set 7 d, (((only_setCell w g 4 _).trans (only_setCell _ g 5 _)).trans (only_setCell _ g 6 _)).trans (only_setCell _ g 7 _) |>.drew⟩
theorem mix8 (a b c d e f g h A B C D E F G H : Int) : mix [a, b, c, d, e, f, g, h] [A, B, C, D, E, F, G, H] 8 =
    [(a + A) % 4294967296, (b + B) % 4294967296, (c + C) % 4294967296, (d + D) % 4294967296, (e + E) % 4294967296, (f + F) % 4294967296, (g + G) % 4294967296, (h + H) % 4294967296] := by
  rw [Int.add_comm a, Int.add_comm b, Int.add_comm c, Int.add_comm d, Int.add_comm e, Int.add_comm f, Int.add_comm g, Int.add_comm h]
  rfl

attribute [local go_sem ↓] Go.wp_at_zero Go.wp_at_succ
set_option maxRecDepth 100000 in
set_option maxHeartbeats 2000000 in
theorem rturn_any (s blk : List Int) (hs : St s) (hB : Blk blk) (v : Value) (w : World) (hv : Sl w v blk) :
    Calls Tryd.prog 40 #[arr .u64 s, v] w fun en w' => en = .returned (arr .u64 (turn s blk)) ∧ Below w.heap.size w w' := by
  obtain ⟨ad, cap, rfl, _, _, hcap, hcells⟩ := hv
  obtain ⟨b, off, rfl, hbs, hcell⟩ := hcells (by rw [hB.1]; omega)
  rw [hB.1] at hcell hcap ⊢
  have h8 : (Tryd.prog.info? 75).map (·.size) = some s.length := by rw [hs.1]; exact Tryd.size75
  have hk64 : (Tryd.prog.info? 83).map (·.size) = some kTab.length := Tryd.size83
  go_enter Tryd.func40, Tryd.ntmps40
  go_wp2_with (first
    | ((with_reducible refine wp_boxR 75 (.tmp 0) .u64 s ?_ ?_ ?_); (exact rfl); (exact ⟨rfl, rfl⟩); intro p2 w2 hg2 hr2 hb2)
    | ((with_reducible refine wp_allocD 4 75 .u64 8 Tryd.zero75 ?_ ?_); (exact ⟨rfl, rfl, rfl⟩); intro p4 w4 hg4 hr4 hb4)
    | ((with_reducible refine wp_allocD 5 83 .u64 64 Tryd.zero83 ?_ ?_); (exact ⟨rfl, rfl, rfl⟩); intro p5 w5 hg5 hr5 hb5))
  have HI : Hid (Row w5 p2 .u64 s ∧ Row w5 p4 .u64 (List.replicate 8 0) ∧ Row w5 p5 .u64 (List.replicate 64 0) ∧ Below w.heap.size w w5) :=
    ⟨(hr2.later hb4).later hb5, hr4.later hb5, hr5, below_next (below_next hb2 hb4) hb5⟩
  have q2 : w.heap.size ≤ p2 := hg2
  have q4 : p2 < p4 := Nat.lt_of_lt_of_le hr2.lt hg4
  have q5 : p4 < p5 := Nat.lt_of_lt_of_le hr4.lt hg5
  clear hr2 hr4 hr5 hb2 hb4 hb5 hg2 hg4 hg5
  have HC : Hid (∀ i, i < 64 → w.cell? ⟨b, off + i, none⟩ = some (.int .u8 (nth blk i))) := hcell
  clear hcell
  go_loopw [6] (fun i wr => ∃ k : Nat, k ≤ 16 ∧ i = .int .i64 k ∧ Hid (Row wr p2 .u64 s ∧ Row wr p4 .u64 (List.replicate 8 0) ∧ Row wr p5 .u64 (wd16 blk k ++ List.replicate (64 - k) 0) ∧ Below w.heap.size w wr)) (fun i _ => 16 - (intOf i).toNat)
  case atStart => exact ⟨0, by omega, rfl, HI.out⟩
  case round =>
    clear HI
    obtain ⟨i, hi, rfl, HI⟩ := hrel
    by_cases hlt : i < 16
    · have hlt' : (i : Int) < 16 := by omega
      go_wp2_with fail
      go_loopw [7] (fun j wr => ∃ k : Nat, k ≤ 4 ∧ j = .int .i64 k ∧ Hid (Row wr p2 .u64 s ∧ Row wr p4 .u64 (List.replicate 8 0) ∧ Row wr p5 .u64 (wpart blk i k) ∧ Below w.heap.size w wr)) (fun j _ => 4 - (intOf j).toNat)
      case atStart =>
        obtain ⟨r2, r4, r5, hb⟩ := HI.out
        exact ⟨0, by omega, rfl, r2, r4, by rw [wpart_zero blk i (by omega)]; exact r5, hb⟩
      case round =>
        clear HI
        obtain ⟨k, hk, rfl, HI⟩ := hrel
        by_cases hkt : k < 4
        · obtain ⟨r2, r4, r5, hb⟩ := HI.out
          have hkt' : (k : Int) < 4 := by omega
          obtain ⟨m, hm⟩ : ∃ m : Nat, m = 4 * i + k := ⟨_, rfl⟩
          have em : 4 * (i : Int) + k = m := by omega
          have hm0 : (0 : Int) ≤ (m : Int) := by omega
          have hm1 : (m : Int) < 64 := by omega
          have hi0 : (0 : Int) ≤ (i : Int) := by omega
          have hi1 : (i : Int) < 64 := by omega
          have va : IntKind.i64.wrap (4 * (i : Int)) = 4 * (i : Int) := wrap_small _ (by omega) (by omega)
          have vb : IntKind.i64.wrap (m : Int) = m := wrap_small _ (by omega) (by omega)
          have c1 := r5.cell i (by rw [wpart_len _ _ _ (by omega)]; omega)
          rw [wpart_at blk i k (by omega)] at c1
          have f1 := r5.froz i
          have c2 : wr.cell? ⟨b, off + m, none⟩ = some (.int .u8 (nth blk m)) := (hb.cell (p := ⟨b, off + m, none⟩) hbs).trans (HC.out m (by omega))
          have HS := wpart_set blk hB i k hlt hkt
          rw [← hm] at HS
          obtain ⟨n0, n1⟩ := wpart_bd hB i k hlt hkt
          obtain ⟨y0, y1⟩ := nth_bd hB.2 m
          have HS' : Hid ((wpart blk i k).set i (numOf ((blk.drop (4 * i)).take k) * 256 + nth blk m) = wpart blk i (k + 1)) := HS
          clear r2 r4 r5 hb HS hm
          generalize numOf ((blk.drop (4 * i)).take k) = X at c1 HS' n0 n1
          generalize nth blk m = Y at c2 HS' y0 y1
          go_wp2
          refine wp_region_still_tail 15 Tryd.mixed (by kernel_rfl) ?_
          simp only [List.take_succ_cons, List.take_zero, List.drop_succ_cons, List.drop_zero]
          repeat still_step
          refine wpStill_nil ?_
          go_wp2
          obtain ⟨r2, r4, r5, hb⟩ := HI.out
          have o := only_setCell wr p5 i (.int .u64 (X * 256 + Y))
          have a2 := r2.only o (show p2 ≠ p5 by omega)
          have a4 := r4.only o (show p4 ≠ p5 by omega)
          have a5 := r5.set i (X * 256 + Y)
          rw [HS'.out] at a5
          have ab := below_only hb o (show w.heap.size ≤ p5 by omega) (Nat.le_refl _)
          refine ⟨⟨k + 1, by omega, by go_num, a2, a4, a5, ab.drew⟩, ?_⟩
          simp [intOf]; omega
        · have hk4 : k = 4 := by omega
          subst hk4
          go_wp2
          obtain ⟨r2, r4, r5, hb⟩ := HI.out
          rw [wpart_four blk i hlt] at r5
          refine ⟨⟨i + 1, by omega, by go_num, r2, r4, r5, hb⟩, ?_⟩
          simp [intOf]; omega
    · have hi' : i = 16 := by omega
      subst hi'
      go_wp2_with fail
      go_loopw [8] (fun i wr => ∃ k j : Nat, k ≤ 48 ∧ Hid (j = 16 + k) ∧ i = .int .i64 j ∧ Hid (Row wr p2 .u64 s ∧ Row wr p4 .u64 (List.replicate 8 0) ∧ Row wr p5 .u64 (ws blk k ++ List.replicate (48 - k) 0) ∧ Below w.heap.size w wr)) (fun i _ => 64 - (intOf i).toNat)
      case atStart => exact ⟨0, 16, by omega, rfl, rfl, HI.out⟩
      case round =>
        clear HI
        obtain ⟨k, j, hk, HJ, rfl, HI⟩ := hrel
        have hj := HJ.out
        by_cases hlt : k < 48
        · obtain ⟨r2, r4, r5, hb⟩ := HI.out
          have hjl : (j : Int) < 64 := by omega
          have hj0 : (0 : Int) ≤ (j : Int) := by omega
          obtain ⟨x15, h15⟩ : ∃ x : Nat, x = j - 15 := ⟨_, rfl⟩
          obtain ⟨x2, h2⟩ : ∃ x : Nat, x = j - 2 := ⟨_, rfl⟩
          obtain ⟨x16, h16⟩ : ∃ x : Nat, x = j - 16 := ⟨_, rfl⟩
          obtain ⟨x7, h7⟩ : ∃ x : Nat, x = j - 7 := ⟨_, rfl⟩
          have e15 : (j : Int) - 15 = x15 := by omega
          have e2 : (j : Int) - 2 = x2 := by omega
          have e16 : (j : Int) - 16 = x16 := by omega
          have e7 : (j : Int) - 7 = x7 := by omega
          have v15 : IntKind.i64.wrap (x15 : Int) = x15 := wrap_small _ (by omega) (by omega)
          have v2 : IntKind.i64.wrap (x2 : Int) = x2 := wrap_small _ (by omega) (by omega)
          have v16 : IntKind.i64.wrap (x16 : Int) = x16 := wrap_small _ (by omega) (by omega)
          have v7 : IntKind.i64.wrap (x7 : Int) = x7 := wrap_small _ (by omega) (by omega)
          have z15 : (0 : Int) ≤ (x15 : Int) := by omega
          have z2 : (0 : Int) ≤ (x2 : Int) := by omega
          have z16 : (0 : Int) ≤ (x16 : Int) := by omega
          have z7 : (0 : Int) ≤ (x7 : Int) := by omega
          have t15 : (x15 : Int) < 64 := by omega
          have t2 : (x2 : Int) < 64 := by omega
          have t16 : (x16 : Int) < 64 := by omega
          have t7 : (x7 : Int) < 64 := by omega
          have hwl := ws_len blk k
          have hrl : (ws blk k ++ List.replicate (48 - k) (0 : Int)).length = 64 := by simp [hwl]; omega
          have c15 := r5.cell x15 (by omega)
          have c2 := r5.cell x2 (by omega)
          have c16 := r5.cell x16 (by omega)
          have c7 := r5.cell x7 (by omega)
          have cj := r5.cell j (by omega)
          have fj := r5.froz j
          rw [nth_left _ _ _ (by omega)] at c15 c2 c16 c7
          obtain ⟨l0, l1⟩ := nth_wd (ws_wd hB k) x15
          obtain ⟨n0, n1⟩ := nth_wd (ws_wd hB k) x2
          obtain ⟨a0, a1⟩ := nth_wd (ws_wd hB k) x16
          obtain ⟨b0, b1⟩ := nth_wd (ws_wd hB k) x7
          have HN : Hid (nxt (ws blk k) (16 + k) = (nth (ws blk k) x16 + nth (ws blk k) x7 + g0 (nth (ws blk k) x15) + g1 (nth (ws blk k) x2)) % 4294967296) := by
            show _ = _
            unfold nxt
            rw [h16, h7, h15, h2, hj]
          have hl0 : bits BinOp.xor IntKind.u64 (bits BinOp.xor IntKind.u32 (rr (nth (ws blk k) x15) 7) (rr (nth (ws blk k) x15) 18)) (nth (ws blk k) x15 / 8) = g0 (nth (ws blk k) x15) :=
            lift_xor _ _ (bits_bd _ _ _).1 (bits_bd _ _ _).2 (by omega) (by omega)
          have hl1 : bits BinOp.xor IntKind.u64 (bits BinOp.xor IntKind.u32 (rr (nth (ws blk k) x2) 17) (rr (nth (ws blk k) x2) 19)) (nth (ws blk k) x2 / 1024) = g1 (nth (ws blk k) x2) :=
            lift_xor _ _ (bits_bd _ _ _).1 (bits_bd _ _ _).2 (by omega) (by omega)
          obtain ⟨c0, c1⟩ : Wd (g0 (nth (ws blk k) x15)) := bits_bd _ _ _
          obtain ⟨d0, d1⟩ : Wd (g1 (nth (ws blk k) x2)) := bits_bd _ _ _
          clear r2 r4 r5 hb hrl hwl h15 h2 h16 h7 hj
          generalize nth (ws blk k) x15 = L at c15 HN hl0 l0 l1 c0 c1
          generalize nth (ws blk k) x2 = H at c2 HN hl1 n0 n1 d0 d1
          generalize nth (ws blk k) x16 = A at c16 HN a0 a1
          generalize nth (ws blk k) x7 = B at c7 HN b0 b1
          generalize nth (ws blk k ++ List.replicate (48 - k) 0) j = z at cj
          go_wp2
          refine wp_region_still_lit Tryd.mixed (by kernel_rfl) ?_
          repeat still_step
          still_call (rright_any L 7 18 (by omega) (by omega) (by omega) (by omega) l0 l1 _)
          repeat still_step
          refine wpStill_nil ?_
          have c2' : ({ heap := wr.heap, tape := wr.tape, drawn := wr.drawn + 1 + 1, os := wr.os, output := wr.output } : World).cell? ⟨p5, x2, none⟩ = some (.int .u64 H) := c2
          have c16' : ({ heap := wr.heap, tape := wr.tape, drawn := wr.drawn + 1 + 1 + 1, os := wr.os, output := wr.output } : World).cell? ⟨p5, x16, none⟩ = some (.int .u64 A) := c16
          have c7' : ({ heap := wr.heap, tape := wr.tape, drawn := wr.drawn + 1 + 1 + 1, os := wr.os, output := wr.output } : World).cell? ⟨p5, x7, none⟩ = some (.int .u64 B) := c7
          have cj' : ({ heap := wr.heap, tape := wr.tape, drawn := wr.drawn + 1 + 1 + 1, os := wr.os, output := wr.output } : World).cell? ⟨p5, j, none⟩ = some (.int .u64 z) := cj
          have fj' : ({ heap := wr.heap, tape := wr.tape, drawn := wr.drawn + 1 + 1 + 1, os := wr.os, output := wr.output } : World).frozen? ⟨p5, j, none⟩ = false := fj
          clear c15 c2 c16 c7 cj fj
          go_wp2
          refine wp_region_still_lit Tryd.mixed (by kernel_rfl) ?_
          repeat still_step
          still_call (rright_any H 17 19 (by omega) (by omega) (by omega) (by omega) n0 n1 _)
          repeat still_step
          refine wpStill_nil ?_
          clear c2' hl0 hl1
          generalize g0 L = GL at HN c0 c1 ⊢
          generalize g1 H = GH at HN d0 d1 ⊢
          clear v15 v2 z15 z2 t15 t2 e15 e2
          go_wp2
          refine wp_region_still_tail 16 Tryd.mixed (by kernel_rfl) ?_
          simp only [List.take_succ_cons, List.take_zero, List.drop_succ_cons, List.drop_zero]
          repeat still_step
          refine wpStill_nil ?_
          go_wp2
          go_roundw
          case rel =>
            (repeat apply Exists.intro)
            refine ⟨?_, rfl⟩
            obtain ⟨r2, r4, r5, hb⟩ := HI.out
            have hj' := HJ.out
            have hV : (A + GL + B + GH) % 4294967296 = nxt (ws blk k) (16 + k) := by rw [HN.out]; omega
            have o := only_setCell wr p5 j (.int .u64 ((A + GL + B + GH) % 4294967296))
            have a2 := r2.only o (show p2 ≠ p5 by omega)
            have a4 := r4.only o (show p4 ≠ p5 by omega)
            have a5 := next_row64 r5 hlt hj' hV
            have ab := below_only hb o (show w.heap.size ≤ p5 by omega) (Nat.le_refl _)
            exact ⟨k + 1, j + 1, by omega, (show j + 1 = 16 + (k + 1) by omega), by go_num, a2, a4, a5, ⟨ab.os, ab.tape, ab.output, ab.size, ab.block⟩⟩
          case measure => simp [intOf]; omega
        · have hk' : k = 48 := by omega
          subst hk'
          have hj64 : j = 64 := by omega
          subst hj64
          rw [Nat.sub_self, List.replicate_zero, List.append_nil] at HI
          have hWl := ws_len blk 48
          have HT : Hid (turn s blk = mix s (rf kTab (ws blk 48) s 64) 8) := rfl
          have HWd : Hid (∀ i, Wd (nth (ws blk 48) i)) := nth_wd (ws_wd hB 48)
          generalize ws blk 48 = W at HI hWl HT HWd
          go_wp2_with fail
          refine (ks_any _).mono ?_
          rintro e w6 ⟨rfl, hb6⟩
          obtain ⟨r2, r4, r5, hb⟩ := HI.out
          replace r2 := r2.later hb6
          replace r4 := r4.later hb6
          replace r5 := r5.later hb6
          replace hb := below_next hb hb6
          clear HI hb6
          go_wp2_with (first
            | ((with_reducible refine wp_allocD 11 83 .u64 64 Tryd.zero83 ?_ ?_); (exact ⟨rfl, rfl, rfl⟩); intro p11 w7 hg7 hr7 hb7)
            | ((with_reducible refine wp_storeR 83 (.tmp 11) (.tmp 90) p11 .u64 (List.replicate 64 0) kTab hk64 ?_ ?_ ?_ ?_ hr7 ?_); (exact rfl); (exact ⟨rfl, rfl⟩); (exact rfl); (exact rfl); intro w8 hr8 ho8))
          have l11 := hr8.lt
          have l2 := r2.lt
          have l4 := r4.lt
          have l5 := r5.lt
          have q11 : p5 < p11 := by omega
          have HI : Hid (Row w8 p2 .u64 s ∧ Row w8 p4 .u64 (List.replicate 8 0) ∧ Row w8 p5 .u64 W ∧ Row w8 p11 .u64 kTab ∧ Below w.heap.size w w8) :=
            ⟨(r2.later hb7).only ho8 (by omega), (r4.later hb7).only ho8 (by omega), (r5.later hb7).only ho8 (by omega), hr8, below_only (below_next hb hb7) ho8 (by have := hb.size; omega) (Nat.le_refl _)⟩
          clear r2 r4 r5 hb hr7 hr8 hb7 ho8 hg7 l11 l2 l4 l5
          obtain ⟨s0', s1', s2', s3', s4', s5', s6', s7', rfl, _⟩ := hs.eight
          obtain ⟨r2, r4, r5, r11, hb⟩ := HI.out
          have c0 : w8.cell? ⟨p2, 0, none⟩ = some (.int .u64 s0') := r2.cell 0 (by simp)
          have c1 : w8.cell? ⟨p2, 1, none⟩ = some (.int .u64 s1') := r2.cell 1 (by simp)
          have c2 : w8.cell? ⟨p2, 2, none⟩ = some (.int .u64 s2') := r2.cell 2 (by simp)
          have c3 : w8.cell? ⟨p2, 3, none⟩ = some (.int .u64 s3') := r2.cell 3 (by simp)
          have c4 : w8.cell? ⟨p2, 4, none⟩ = some (.int .u64 s4') := r2.cell 4 (by simp)
          have c5 : w8.cell? ⟨p2, 5, none⟩ = some (.int .u64 s5') := r2.cell 5 (by simp)
          have c6 : w8.cell? ⟨p2, 6, none⟩ = some (.int .u64 s6') := r2.cell 6 (by simp)
          have c7 : w8.cell? ⟨p2, 7, none⟩ = some (.int .u64 s7') := r2.cell 7 (by simp)
          clear r2 r4 r5 r11 hb
          go_quiet (fail)
          go_wp2
          go_quiet (fail)
          clear c0 c1 c2 c3 c4 c5 c6 c7
          go_wp2_with fail
          go_loopw [12, 13, 14, 15, 16, 17, 18, 19, 20] (fun a b c d e f g h i wr => ∃ (k : Nat) (A B C D E F G H : Int), k ≤ 64 ∧ i = .int .i64 k ∧ a = .int .u64 A ∧ b = .int .u64 B ∧ c = .int .u64 C ∧ d = .int .u64 D ∧ e = .int .u64 E ∧ f = .int .u64 F ∧ g = .int .u64 G ∧ h = .int .u64 H ∧ Hid (rf kTab W [s0', s1', s2', s3', s4', s5', s6', s7'] k = [A, B, C, D, E, F, G, H]) ∧
              Hid (Row wr p2 .u64 [s0', s1', s2', s3', s4', s5', s6', s7'] ∧ Row wr p4 .u64 (List.replicate 8 0) ∧ Row wr p5 .u64 W ∧ Row wr p11 .u64 kTab ∧ Below w.heap.size w wr)) (fun _ _ _ _ _ _ _ _ i _ => 64 - (intOf i).toNat)
          case atStart =>
            obtain ⟨r2, r4, r5, r11, hb⟩ := HI.out
            exact ⟨0, s0', s1', s2', s3', s4', s5', s6', s7', by omega, rfl, rfl, rfl, rfl, rfl, rfl, rfl, rfl, rfl, rfl, r2, r4, r5, r11, below_drewN (below_drewN hb _) _⟩
          case round =>
            clear HI
            obtain ⟨k, A, B, C, D, E, F, G, H, hk, rfl, rfl, rfl, rfl, rfl, rfl, rfl, rfl, rfl, HF, HI⟩ := hrel
            by_cases hlt : k < 64
            · obtain ⟨r2, r4, r5, r11, hb⟩ := HI.out
              have hlt' : (k : Int) < 64 := by omega
              have hk0 : (0 : Int) ≤ (k : Int) := by omega
              have cK := r11.cell k (by show k < 64; exact hlt)
              have cW := r5.cell k (by omega)
              have hst : St [A, B, C, D, E, F, G, H] := by rw [← HF.out]; exact rf_st hs k
              obtain ⟨A', B', C', D', E', F', G', H', hE, w0, w1, w2, w3, w4, w5, w6, w7⟩ := hst.eight
              simp only [List.cons.injEq, and_true] at hE
              obtain ⟨rfl, rfl, rfl, rfl, rfl, rfl, rfl, rfl⟩ := hE
              obtain ⟨k0, k1⟩ := nth_wd kTab_wd k
              obtain ⟨y0, y1⟩ := HWd.out k
              have HR : Hid (rf kTab W [s0', s1', s2', s3', s4', s5', s6', s7'] (k + 1) = rnd [A, B, C, D, E, F, G, H] ((nth kTab k + nth W k) % 4294967296)) := by
                show _ = _; rw [← HF.out]; rfl
              obtain ⟨a0, a1⟩ := w0
              obtain ⟨b0, b1⟩ := w1
              obtain ⟨c0, c1⟩ := w2
              obtain ⟨d0, d1⟩ := w3
              obtain ⟨e0, e1⟩ := w4
              obtain ⟨f0, f1⟩ := w5
              obtain ⟨g0, g1⟩ := w6
              obtain ⟨h0, h1⟩ := w7
              have m1 : bits BinOp.and IntKind.u64 E F = bits BinOp.and IntKind.u32 E F := lift_and _ _ e0 e1 f0 f1
              have m2 : bits BinOp.and IntKind.u64 (4294967295 - E) G = bits BinOp.and IntKind.u32 (4294967295 - E) G := lift_and _ _ (by omega) (by omega) g0 g1
              have m3 : bits BinOp.xor IntKind.u64 (bits BinOp.and IntKind.u32 E F) (bits BinOp.and IntKind.u32 (4294967295 - E) G) = ch E F G := lift_xor _ _ (bits_bd _ _ _).1 (bits_bd _ _ _).2 (bits_bd _ _ _).1 (bits_bd _ _ _).2
              have m4 : bits BinOp.xor IntKind.u64 (bits BinOp.xor IntKind.u32 (rr E 6) (rr E 11)) (rr E 25) = s1 E := lift_xor _ _ (bits_bd _ _ _).1 (bits_bd _ _ _).2 (bits_bd _ _ _).1 (bits_bd _ _ _).2
              have m5 : bits BinOp.xor IntKind.u64 (bits BinOp.xor IntKind.u32 (rr A 2) (rr A 13)) (rr A 22) = s0 A := lift_xor _ _ (bits_bd _ _ _).1 (bits_bd _ _ _).2 (bits_bd _ _ _).1 (bits_bd _ _ _).2
              have m6 : bits BinOp.and IntKind.u64 A B = bits BinOp.and IntKind.u32 A B := lift_and _ _ a0 a1 b0 b1
              have m7 : bits BinOp.and IntKind.u64 A C = bits BinOp.and IntKind.u32 A C := lift_and _ _ a0 a1 c0 c1
              have m8 : bits BinOp.and IntKind.u64 B C = bits BinOp.and IntKind.u32 B C := lift_and _ _ b0 b1 c0 c1
              have m9 : bits BinOp.xor IntKind.u64 (bits BinOp.and IntKind.u32 A B) (bits BinOp.and IntKind.u32 A C) = bits BinOp.xor IntKind.u32 (bits BinOp.and IntKind.u32 A B) (bits BinOp.and IntKind.u32 A C) := lift_xor _ _ (bits_bd _ _ _).1 (bits_bd _ _ _).2 (bits_bd _ _ _).1 (bits_bd _ _ _).2
              have m10 : bits BinOp.xor IntKind.u64 (bits BinOp.xor IntKind.u32 (bits BinOp.and IntKind.u32 A B) (bits BinOp.and IntKind.u32 A C)) (bits BinOp.and IntKind.u32 B C) = mj A B C := lift_xor _ _ (bits_bd _ _ _).1 (bits_bd _ _ _).2 (bits_bd _ _ _).1 (bits_bd _ _ _).2
              obtain ⟨i0, i1⟩ : Wd (ch E F G) := bits_bd _ _ _
              obtain ⟨j0, j1⟩ : Wd (s1 E) := bits_bd _ _ _
              obtain ⟨n0, n1⟩ : Wd (s0 A) := bits_bd _ _ _
              obtain ⟨o0, o1⟩ : Wd (mj A B C) := bits_bd _ _ _
              clear r2 r4 r5 r11 hb hst
              generalize nth kTab k = Kk at cK HR k0 k1
              generalize nth W k = Wk at cW HR y0 y1
              go_wp2
              refine wp_region_still_lit Tryd.mixed (by kernel_rfl) ?_
              repeat still_step
              still_call (rright_any E 6 11 (by omega) (by omega) (by omega) (by omega) e0 e1 _)
              repeat still_step
              still_call (turned_any E 25 (by omega) (by omega) e0 e1 _)
              repeat still_step
              refine wpStill_nil ?_
              clear cK cW m1 m2 m3 m4
              generalize hS1 : s1 E = S1 at j0 j1 ⊢
              generalize hCH : ch E F G = CH at i0 i1 ⊢
              go_wp2_with fail
              generalize hX : (IntKind.u64.wrap (IntKind.u64.wrap (IntKind.u64.wrap (IntKind.u64.wrap (H + S1) + CH) + Kk) + Wk)).tmod 4294967296 = X
              have HX : Hid (sx E F G H ((Kk + Wk) % 4294967296) = X) := by
                show _ = _
                unfold sx
                rw [hS1, hCH, ← hX]
                simp only [IntKind.wrap_u64]
                rw [Int.tmod_eq_emod_of_nonneg (by omega)]
                omega
              obtain ⟨x0, x1⟩ : Wd X := by rw [← HX.out]; exact md_wd _
              clear hX hS1 hCH i0 i1 j0 j1 k0 k1 y0 y1
              refine (rright_any A 2 13 (by omega) (by omega) (by omega) (by omega) a0 a1 _).mono ?_
              rintro en wq ⟨rfl, rfl⟩
              go_wp2_with fail
              refine (turned_any A 22 (by omega) (by omega) a0 a1 _).mono ?_
              rintro en wq ⟨rfl, rfl⟩
              go_wp2
              obtain ⟨r2, r4, r5, r11, hb⟩ := HI.out
              refine ⟨⟨k + 1, (X + sy A B C) % 4294967296, A, B, C, (D + X) % 4294967296, E, F, G, by omega, by go_num, rfl, rfl, rfl, rfl, rfl, rfl, rfl, rfl, ?_, r2, r4, r5, r11, hb.drew⟩, ?_⟩
              · show _ = _
                rw [HR.out]
                exact rnd_lit HX.out
              · simp [intOf]; omega
            · have hk' : k = 64 := by omega
              subst hk'
              have hst : St [A, B, C, D, E, F, G, H] := by rw [← HF.out]; exact rf_st hs 64
              obtain ⟨A', B', C', D', E', F', G', H', hE, w0, w1, w2, w3, w4, w5, w6, w7⟩ := hst.eight
              simp only [List.cons.injEq, and_true] at hE
              obtain ⟨rfl, rfl, rfl, rfl, rfl, rfl, rfl, rfl⟩ := hE
              obtain ⟨S0, S1, S2, S3, S4, S5, S6, S7, hE, v0, v1, v2, v3, v4, v5, v6, v7⟩ := hs.eight
              simp only [List.cons.injEq, and_true] at hE
              obtain ⟨rfl, rfl, rfl, rfl, rfl, rfl, rfl, rfl⟩ := hE
              unfold Wd at w0 w1 w2 w3 w4 w5 w6 w7 v0 v1 v2 v3 v4 v5 v6 v7
              have HT2 : Hid (turn [s0', s1', s2', s3', s4', s5', s6', s7'] blk = [(s0' + A) % 4294967296, (s1' + B) % 4294967296, (s2' + C) % 4294967296, (s3' + D) % 4294967296, (s4' + E) % 4294967296, (s5' + F) % 4294967296, (s6' + G) % 4294967296, (s7' + H) % 4294967296]) := by
                show _ = _
                rw [HT.out, HF.out]
                exact mix8 _ _ _ _ _ _ _ _ _ _ _ _ _ _ _ _
              obtain ⟨t0, ht0⟩ : ∃ t, t = (s0' + A) % 4294967296 := ⟨_, rfl⟩
              obtain ⟨t1, ht1⟩ : ∃ t, t = (s1' + B) % 4294967296 := ⟨_, rfl⟩
              obtain ⟨t2, ht2⟩ : ∃ t, t = (s2' + C) % 4294967296 := ⟨_, rfl⟩
              obtain ⟨t3, ht3⟩ : ∃ t, t = (s3' + D) % 4294967296 := ⟨_, rfl⟩
              obtain ⟨t4, ht4⟩ : ∃ t, t = (s4' + E) % 4294967296 := ⟨_, rfl⟩
              obtain ⟨t5, ht5⟩ : ∃ t, t = (s5' + F) % 4294967296 := ⟨_, rfl⟩
              obtain ⟨t6, ht6⟩ : ∃ t, t = (s6' + G) % 4294967296 := ⟨_, rfl⟩
              obtain ⟨t7, ht7⟩ : ∃ t, t = (s7' + H) % 4294967296 := ⟨_, rfl⟩
              have e0 : (IntKind.u64.wrap (s0' + A)).tmod 4294967296 = t0 := sumW ht0 (by omega) (by omega)
              have e1 : (IntKind.u64.wrap (s1' + B)).tmod 4294967296 = t1 := sumW ht1 (by omega) (by omega)
              have e2 : (IntKind.u64.wrap (s2' + C)).tmod 4294967296 = t2 := sumW ht2 (by omega) (by omega)
              have e3 : (IntKind.u64.wrap (s3' + D)).tmod 4294967296 = t3 := sumW ht3 (by omega) (by omega)
              have E4 : Hid ((IntKind.u64.wrap (s4' + E)).tmod 4294967296 = t4) := sumW ht4 (by omega) (by omega)
              have E5 : Hid ((IntKind.u64.wrap (s5' + F)).tmod 4294967296 = t5) := sumW ht5 (by omega) (by omega)
              have E6 : Hid ((IntKind.u64.wrap (s6' + G)).tmod 4294967296 = t6) := sumW ht6 (by omega) (by omega)
              have E7 : Hid ((IntKind.u64.wrap (s7' + H)).tmod 4294967296 = t7) := sumW ht7 (by omega) (by omega)
              rw [← ht0, ← ht1, ← ht2, ← ht3, ← ht4, ← ht5, ← ht6, ← ht7] at HT2
              clear ht0 ht1 ht2 ht3 ht4 ht5 ht6 ht7 w0 w1 w2 w3 w4 w5 w6 w7 v0 v1 v2 v3 v4 v5 v6 v7
              obtain ⟨r2, r4, r5, r11, hb⟩ := HI.out
              clear HI hst HT HF hs
              go_wp2_with ((with_reducible refine wp_allocD 24 75 .u64 8 Tryd.zero75 ?_ ?_); (exact ⟨rfl, rfl, rfl⟩); intro p24 w9 hg9 hr9 hb9)
              have q24 : p4 < p24 := Nat.lt_of_lt_of_le r4.lt hg9
              replace r2 := r2.later hb9
              replace r4 := r4.later hb9
              replace hb := below_next hb hb9
              clear r5 r11 hb9 hg9
              have c0 : w9.cell? ⟨p2, 0, none⟩ = some (.int .u64 s0') := r2.cell 0 (by simp)
              have c1 : w9.cell? ⟨p2, 1, none⟩ = some (.int .u64 s1') := r2.cell 1 (by simp)
              have c2 : w9.cell? ⟨p2, 2, none⟩ = some (.int .u64 s2') := r2.cell 2 (by simp)
              have c3 : w9.cell? ⟨p2, 3, none⟩ = some (.int .u64 s3') := r2.cell 3 (by simp)
              have y24 : ¬ p24 = p2 := by omega
              have y24' : ¬ p2 = p24 := by omega
              have d0 : w9.cell? ⟨p24, 0, none⟩ = some (.int .u64 0) := hr9.cell 0 (by simp)
              have d1 : w9.cell? ⟨p24, 1, none⟩ = some (.int .u64 0) := hr9.cell 1 (by simp)
              have d2 : w9.cell? ⟨p24, 2, none⟩ = some (.int .u64 0) := hr9.cell 2 (by simp)
              have d3 : w9.cell? ⟨p24, 3, none⟩ = some (.int .u64 0) := hr9.cell 3 (by simp)
              have f0 : w9.frozen? ⟨p24, 0, none⟩ = false := hr9.froz 0
              have f1 : w9.frozen? ⟨p24, 1, none⟩ = false := hr9.froz 1
              have f2 : w9.frozen? ⟨p24, 2, none⟩ = false := hr9.froz 2
              have f3 : w9.frozen? ⟨p24, 3, none⟩ = false := hr9.froz 3
              have R2 : Hid (Row w9 p2 .u64 [s0', s1', s2', s3', s4', s5', s6', s7']) := r2
              have R4 : Hid (Row w9 p4 .u64 (List.replicate 8 0)) := r4
              have R9 : Hid (Row w9 p24 .u64 (List.replicate 8 0)) := hr9
              have HB : Hid (Below w.heap.size w w9) := hb
              clear r2 r4 hr9 hb
              go_region_held3 (fun w' => w'.cell? ⟨p2, 0, none⟩ = some (.int .u64 s0') ∧ w'.cell? ⟨p2, 1, none⟩ = some (.int .u64 s1') ∧ w'.cell? ⟨p2, 2, none⟩ = some (.int .u64 s2') ∧ w'.cell? ⟨p2, 3, none⟩ = some (.int .u64 s3')) (go_keep) (fail)
              clear c0 c1 c2 c3 d0 d1 d2 d3 f0 f1 f2 f3 e0 e1 e2 e3
              obtain ⟨hr10, ho10⟩ := set4a R9.out t0 t1 t2 t3
              generalize ((((w9.setCell ⟨p24, 0, none⟩ (.int .u64 t0)).setCell ⟨p24, 1, none⟩ (.int .u64 t1)).setCell ⟨p24, 2, none⟩ (.int .u64 t2)).setCell ⟨p24, 3, none⟩ (.int .u64 t3)).drew = w10 at hr10 ho10 ⊢
              have r2 := R2.out.only ho10 y24'
              have r4 := R4.out.only ho10 (by omega)
              have hb := below_only HB.out ho10 (show w.heap.size ≤ p24 by omega) (Nat.le_refl _)
              have e4 := E4.out
              have e5 := E5.out
              have e6 := E6.out
              have e7 := E7.out
              have c4 : w10.cell? ⟨p2, 4, none⟩ = some (.int .u64 s4') := r2.cell 4 (by simp)
              have c5 : w10.cell? ⟨p2, 5, none⟩ = some (.int .u64 s5') := r2.cell 5 (by simp)
              have c6 : w10.cell? ⟨p2, 6, none⟩ = some (.int .u64 s6') := r2.cell 6 (by simp)
              have c7 : w10.cell? ⟨p2, 7, none⟩ = some (.int .u64 s7') := r2.cell 7 (by simp)
              have d4 : w10.cell? ⟨p24, 4, none⟩ = some (.int .u64 0) := hr10.cell 4 (by simp)
              have d5 : w10.cell? ⟨p24, 5, none⟩ = some (.int .u64 0) := hr10.cell 5 (by simp)
              have d6 : w10.cell? ⟨p24, 6, none⟩ = some (.int .u64 0) := hr10.cell 6 (by simp)
              have d7 : w10.cell? ⟨p24, 7, none⟩ = some (.int .u64 0) := hr10.cell 7 (by simp)
              have f4 : w10.frozen? ⟨p24, 4, none⟩ = false := hr10.froz 4
              have f5 : w10.frozen? ⟨p24, 5, none⟩ = false := hr10.froz 5
              have f6 : w10.frozen? ⟨p24, 6, none⟩ = false := hr10.froz 6
              have f7 : w10.frozen? ⟨p24, 7, none⟩ = false := hr10.froz 7
              have R4' : Hid (Row w10 p4 .u64 (List.replicate 8 0)) := r4
              have R10 : Hid (Row w10 p24 .u64 [t0, t1, t2, t3, 0, 0, 0, 0]) := hr10
              have HB' : Hid (Below w.heap.size w w10) := hb
              clear r2 r4 hr10 hb ho10 R2 R4 R9 HB
              go_wp2
              go_region_held3 (fun w' => w'.cell? ⟨p2, 4, none⟩ = some (.int .u64 s4') ∧ w'.cell? ⟨p2, 5, none⟩ = some (.int .u64 s5') ∧ w'.cell? ⟨p2, 6, none⟩ = some (.int .u64 s6') ∧ w'.cell? ⟨p2, 7, none⟩ = some (.int .u64 s7')) (go_keep) (fail)
              clear c4 c5 c6 c7 d4 d5 d6 d7 f4 f5 f6 f7 e4 e5 e6 e7
              obtain ⟨hr11, ho11⟩ := set4b R10.out t4 t5 t6 t7
              generalize ((((w10.setCell ⟨p24, 4, none⟩ (.int .u64 t4)).setCell ⟨p24, 5, none⟩ (.int .u64 t5)).setCell ⟨p24, 6, none⟩ (.int .u64 t6)).setCell ⟨p24, 7, none⟩ (.int .u64 t7)).drew = w11 at hr11 ho11 ⊢
              have r4 := R4'.out.only ho11 (by omega)
              have hb := below_only HB'.out ho11 (show w.heap.size ≤ p24 by omega) (Nat.le_refl _)
              have h8' : (Tryd.prog.info? 75).map (·.size) = some ([t0, t1, t2, t3, t4, t5, t6, t7] : List Int).length := Tryd.size75
              go_wp2_with (first
                | ((with_reducible refine wp_loadR 75 (.tmp 24) p24 .u64 [t0, t1, t2, t3, t4, t5, t6, t7] _ Tryd.underlying75 rfl h8' ?_ ?_ hr11 ?_); (exact ⟨rfl, rfl⟩); (exact rfl))
                | ((with_reducible refine wp_storeR 75 (.tmp 4) (.tmp 217) p4 .u64 (List.replicate 8 0) [t0, t1, t2, t3, t4, t5, t6, t7] h8' ?_ ?_ ?_ ?_ r4 ?_); (exact rfl); (exact ⟨rfl, rfl⟩); (exact rfl); (exact rfl); intro w12 r12 o12))
              refine ret_row rfl p4 .u64 [t0, t1, t2, t3, t4, t5, t6, t7] _ Tryd.underlying75 rfl h8' rfl r12 rfl ⟨by rw [HT2.out], ?_⟩
              exact below_only hb o12 (show w.heap.size ≤ p4 by omega) (Nat.le_refl _)
end Go.Proofs.YtilfmemfnheppaaDoor
