/- The examples hold. Condition: the table of signs lies in memory. -/
import Derived.Test.YtocdgddahbpkpaaDoorUH
namespace Go.Proofs.YtocdgddahbpkpaaDoor
open Go.RowKit Go.PlainAid Ln Go.Sort
set_option linter.unusedVariables false
set_option linter.unusedSimpArgs false

/-- a number -/
def vN (n : Int) : Val := (1, n, noB)
section
variable {P : Program} {o : Oper} {a : Act} {w : World} {K : Act → World → Prop} {Q : Exit → Act → World → Prop}
theorem wpo_storeB (ty : TypeId) (x y : Operand) (g off : Nat) (vs c : List Value) (t : TypeId) (hi : (P.info? ty).map (·.size) = some vs.length) (hl : off + vs.length ≤ c.length) (h1 : ∀ v ∈ vs, v.oneCell' = true)
    (hop : o.op = .store ty x y) (hx : a.eval x = .pointer (some ⟨g, off, none⟩)) (hy : a.eval y = .agg vs.toArray) (hg : Blk w g c t)
    (hK : ∀ w', Blk w' g (c.take off ++ vs ++ c.drop (off + vs.length)) t → Oth g g w w' → K (a.put o.dst undef) w') : o.wp P a w K Q := by
  unfold Oper.wp execOp
  simp only [hop, hx, hy, Instr.storeAt, Instr.sureAddr, Sem.run_bind, Sem.run_pure, Result.andThen_ok, run_storeB ty g off vs c t hg hi hl h1]
  exact hK _ (setRow_heap w g _ _ t _ hg) (oth_setRow g w _)
end
theorem sz1 (x : Val) (h : x.2.2.size ≤ 4611686018427387904) : SzV [x] := by
  refine ⟨fun i hi => ?_, by simp⟩
  have e : i = 0 := by simpa using hi
  subst e
  exact h
theorem sz2 (x y : Val) (h : x.2.2.size ≤ 4611686018427387904) (h' : y.2.2.size ≤ 4611686018427387904) : SzV [x, y] := by
  refine ⟨fun i hi => ?_, by simp⟩
  have e : i = 0 ∨ i = 1 := by simp at hi; omega
  rcases e with rfl | rfl
  · exact h
  · exact h'
theorem sz0 : SzV [] := ⟨fun i hi => absurd hi (Nat.not_lt_zero i), Nat.zero_le _⟩
theorem vsl_nil0 (w : World) : VSl w nilS [] := ⟨none, 0, rfl, Nat.le_refl _, by omega, .inl ⟨rfl, fun _ => rfl⟩⟩
theorem own_two (w : World) (B : Nat) (hB : B ≤ w.heap.size) (x y : Val) : OwnV (w.alloc (.cells (encV x ++ encV y).toArray 25)) B (.slice (some ⟨w.heap.size, 0, none⟩) 2 2) [x, y] :=
  ⟨rfl, .inr ⟨w.heap.size, 2, (encV x ++ encV y).toArray, rfl, hB, World.alloc_heap_new w _, Nat.le_refl _, by decide, rfl, rfl⟩⟩
theorem ownV_drew {w : World} {B : Nat} {v : Value} {xs : List Val} (h : OwnV w B v xs) : OwnV { w with drawn := w.drawn + 1 } B v xs := h.later ⟨rfl, rfl, rfl, Nat.le_refl _, fun _ _ => rfl⟩
/-- a value and a state lie here -/
def S7 (p q : Nat) (wx : World) : Prop := Blk wx p (encV (vN 1)) 25 ∧ Blk wx q (stC 2 noV nilS) 28
theorem S7.later {p q : Nat} {w w' : World} (h : S7 p q w) (hb : Below w.heap.size w w') : S7 p q w' := ⟨h.1.later hb, h.2.later hb⟩
theorem k5o : ownM 9 = true := by kernel_rfl
theorem k5m : mayD 9 ⟨vN 1, 1, [vN 5]⟩ = true := by kernel_rfl
theorem k5n : nxV 9 noV ⟨vN 1, 1, [vN 5]⟩ = vN 5 := by kernel_rfl
theorem k3m : mayD 9 ⟨vN 1, 1, [vN 3]⟩ = true := by kernel_rfl
theorem k3n : nxV 9 (vN 5) ⟨vN 1, 1, [vN 3]⟩ = vN 5 := by kernel_rfl
theorem krm : mayD 9 ⟨vN 1, 2, []⟩ = true := by kernel_rfl
theorem kro : outD (vN 5) ⟨vN 1, 2, []⟩ = [vN 5] := by kernel_rfl
theorem kso : ownM 2 = true := by kernel_rfl
theorem ksm : mayD 2 ⟨vN 1, 3, [vN 1, vN 2]⟩ = true := by kernel_rfl
theorem ksu : outD noV ⟨vN 1, 3, [vN 1, vN 2]⟩ = [yesV false] := by kernel_rfl
theorem ky5 : sameL [vN 5] [vN 5] = true := by kernel_rfl
theorem kyn : sameL [yesV false] [(3, 0, noB)] = true := by kernel_rfl
set_option maxRecDepth 100000 in
set_option maxHeartbeats 16000000 in
theorem wakes_any (w : World) (ht : Tb w) : Calls Tryd.prog 6 #[] w fun e w' => e = .returned (.bool true) ∧ Below w.heap.size w w' := by
  have mixed : Tryd.prog.follows .mixedOrders = true := by kernel_rfl
  have HT : Hid (Tb w) := ht
  clear ht
  have h1 := fun w => num_any 1 w
  have h9 := fun w => new_is 9 (.inr (.inr rfl)) w
  go_enter Tryd.func6, Tryd.ntmps6
  go_wp2_with (first
    | (go_at_call 18; refine (h1 _).mono ?_; rintro e w1 ⟨rfl, hb1⟩)
    | (go_at_call 7; refine (h9 _).mono ?_; rintro e w2 ⟨rfl, hb2⟩; simp only [stC, noV]))
  rename_i K hKK
  have HA1 : Blk (w1.alloc (.cells (encV (vN 1)).toArray 25)) w1.heap.size (encV (vN 1)) 25 := Blk.new w1 _ _
  have HZ2 : Blk (w2.alloc (.cells (stC 9 noV nilS).toArray 28)) w2.heap.size (stC 9 noV nilS) 28 := Blk.new w2 _ _
  have hb3 := below_box w2 (.cells (stC 9 noV nilS).toArray 28)
  change Below (w1.alloc (.cells (encV (vN 1)).toArray 25)).heap.size (w1.alloc (.cells (encV (vN 1)).toArray 25)) w2 at hb2
  have hba : Below w.heap.size w (w1.alloc (.cells (encV (vN 1)).toArray 25)) := below_next hb1 (below_box w1 _)
  have HB : Below w.heap.size w (w2.alloc (.cells (stC 9 noV nilS).toArray 28)) := below_next (below_next hba hb2) hb3
  have HA2 := HA1.later hb2
  have hne : w1.heap.size ≠ w2.heap.size := by have := HA2.lt; omega
  have hle : w.heap.size ≤ w2.heap.size := (below_next hba hb2).size
  have HS := HA2.later hb3
  obtain ⟨z1, hz1⟩ : ∃ z1, w1.heap.size = z1 := ⟨_, rfl⟩
  obtain ⟨z2, hz2⟩ : ∃ z2, w2.heap.size = z2 := ⟨_, rfl⟩
  rw [hz2] at HZ2 hle
  rw [hz1] at HS
  rw [hz1, hz2] at hne
  simp only [hz1, hz2]
  change Blk (w2.alloc (.cells #[.int .i64 9, .int .i64 0, .int .i64 0, .string noB, .int .i64 0, .slice none 0 0] 28)) _ _ _ at HZ2 HS
  change Below _ w (w2.alloc (.cells #[.int .i64 9, .int .i64 0, .int .i64 0, .string noB, .int .i64 0, .slice none 0 0] 28)) at HB
  generalize w2.alloc (.cells #[.int .i64 9, .int .i64 0, .int .i64 0, .string noB, .int .i64 0, .slice none 0 0] 28) = w3 at HZ2 HS HB ⊢
  have HNe : Hid (z1 ≠ z2) := hne
  have HLe : Hid (w.heap.size ≤ z2) := hle
  clear hb1 hb2 hba HA1 HA2 hb3 hz1 hz2 hne hle h9
  have tail3 : ∀ w', Blk w' z1 (encV (vN 1)) 25 → Blk w' z2 (stC 9 (vN 5) nilS) 28 → Below w.heap.size w w' → ∀ u0 u3 u4 u5 u6 u7 u8 u9 u10 u11 u12 u13 u14 u15 u16 u17 u18 u19 u20 u21 u22 u23 u24 u25 u26 u27 u28 u29 u30 u31 u32 u33 u34 u35 u36 u37 u38 u39 u40 u41 u42 u43 u44 u45 u46 u47 u48 u49 u50 u51 u52 u53 u54 u55 u56 u57 u58 u59 u60 u61 u62 u63 u64 u65 u66 u67 u68 u69 u70 u71, K ⟨#[u0, .pointer (some ⟨z1, 0, none⟩), .pointer (some ⟨z2, 0, none⟩), u3, u4, u5, u6, u7, u8, u9, u10, u11, u12, u13, u14, u15, u16, u17, u18, u19, u20, u21, u22, u23, u24, u25, u26, u27, u28, u29, u30, u31, u32, u33, u34, u35, u36, u37, u38, u39, u40, u41, u42, u43, u44, u45, u46, u47, u48, u49, u50, u51, u52, u53, u54, u55, u56, u57, u58, u59, u60, u61, u62, u63, u64, u65, u66, u67, u68, u69, u70, u71], []⟩ w' := by
    intro w' HS HZ2 HB u0 u3 u4 u5 u6 u7 u8 u9 u10 u11 u12 u13 u14 u15 u16 u17 u18 u19 u20 u21 u22 u23 u24 u25 u26 u27 u28 u29 u30 u31 u32 u33 u34 u35 u36 u37 u38 u39 u40 u41 u42 u43 u44 u45 u46 u47 u48 u49 u50 u51 u52 u53 u54 u55 u56 u57 u58 u59 u60 u61 u62 u63 u64 u65 u66 u67 u68 u69 u70 u71
    apply hKK
    clear hKK K
    go_wp2_with fail
    rename_i K hKK
    have tail4 : ∀ w', Blk w' z1 (encV (vN 1)) 25 → Blk w' z2 (stC 9 (vN 5) nilS) 28 → Below w.heap.size w w' → ∀ u0 u3 u4 u5 u6 u7 u8 u9 u10 u11 u12 u13 u14 u15 u16 u17 u18 u19 u20 u21 u22 u23 u24 u25 u26 u27 u28 u29 u30 u31 u32 u33 u34 u35 u36 u37 u38 u39 u40 u41 u42 u43 u44 u45 u46 u47 u48 u49 u50 u51 u52 u53 u54 u55 u56 u57 u58 u59 u60 u61 u62 u63 u64 u65 u66 u67 u68 u69 u70 u71, K ⟨#[u0, .pointer (some ⟨z1, 0, none⟩), .pointer (some ⟨z2, 0, none⟩), u3, u4, u5, u6, u7, u8, u9, u10, u11, u12, u13, u14, u15, u16, u17, u18, u19, u20, u21, u22, u23, u24, u25, u26, u27, u28, u29, u30, u31, u32, u33, u34, u35, u36, u37, u38, u39, u40, u41, u42, u43, u44, u45, u46, u47, u48, u49, u50, u51, u52, u53, u54, u55, u56, u57, u58, u59, u60, u61, u62, u63, u64, u65, u66, u67, u68, u69, u70, u71], []⟩ w' := by
      intro w' HS HZ2 HB u0 u3 u4 u5 u6 u7 u8 u9 u10 u11 u12 u13 u14 u15 u16 u17 u18 u19 u20 u21 u22 u23 u24 u25 u26 u27 u28 u29 u30 u31 u32 u33 u34 u35 u36 u37 u38 u39 u40 u41 u42 u43 u44 u45 u46 u47 u48 u49 u50 u51 u52 u53 u54 u55 u56 u57 u58 u59 u60 u61 u62 u63 u64 u65 u66 u67 u68 u69 u70 u71
      apply hKK
      clear hKK K
      obtain ⟨s0, s1, s2, s3, s4, s5⟩ := st_cells HZ2
      obtain ⟨a0, a1, a2⟩ := v_cells HS
      go_wp2_with fail
      refine (step_yes 9 (vN 5) (vN 1) nilS 2 nilS [] w' (HT.out.later HB) (vsl_nil0 _) sz0 (Nat.zero_le _) k5o krm).mono ?_
      rintro e w4 ⟨vo, rfl, ho, hb4⟩
      rw [kro] at ho
      have VO4 : OwnV w4 w.heap.size vo [vN 5] := ho.base HB.size
      have HS4 := HS.later hb4
      have HB4 := below_next HB hb4
      clear s0 s1 s2 s3 s4 s5 a0 a1 a2 HS HZ2 HB ho hb4
      generalize nxV 9 (vN 5) ⟨vN 1, 2, []⟩ = x4
      simp only [stC]
      go_wp2_with fail
      have hb5 := below_box w4 (.cells (stC 9 x4 nilS).toArray 28)
      have VO5 := VO4.later hb5
      have HS5 := HS4.later hb5
      have HB5 := below_next HB4 hb5
      change OwnV (w4.alloc (.cells #[.int .i64 9, .int .i64 x4.1, .int .i64 x4.2.1, .string x4.2.2, .int .i64 0, nilS] 28)) _ _ _ at VO5
      change Blk (w4.alloc (.cells #[.int .i64 9, .int .i64 x4.1, .int .i64 x4.2.1, .string x4.2.2, .int .i64 0, nilS] 28)) _ _ _ at HS5
      change Below _ w (w4.alloc (.cells #[.int .i64 9, .int .i64 x4.1, .int .i64 x4.2.1, .string x4.2.2, .int .i64 0, nilS] 28)) at HB5
      generalize w4.alloc (.cells #[.int .i64 9, .int .i64 x4.1, .int .i64 x4.2.1, .string x4.2.2, .int .i64 0, nilS] 28) = w5 at VO5 HS5 HB5 ⊢
      clear VO4 HS4 HB4 hb5
      refine (new_is 2 (.inr (.inl rfl)) w5).mono ?_
      rintro e w6 ⟨rfl, hb6⟩
      simp only [stC, noV]
      have VO6 := VO5.later hb6
      have HS6 := HS5.later hb6
      have HB6 := below_next HB5 hb6
      have HC7 := Blk.new w6 (stC 2 noV nilS) 28
      have hb7 := below_box w6 (.cells (stC 2 noV nilS).toArray 28)
      have VO := VO6.later hb7
      have HA7 := HS6.later hb7
      have HB := below_next HB6 hb7
      clear VO5 HS5 HB5 VO6 HS6 HB6 hb6 hb7
      go_wp2_with fail
      rename_i K hKK
      obtain ⟨z7, hz7⟩ : ∃ z7, w6.heap.size = z7 := ⟨_, rfl⟩
      change OwnV (w6.alloc (.cells #[.int .i64 2, .int .i64 0, .int .i64 0, .string noB, .int .i64 0, nilS] 28)) _ _ _ at VO
      change Blk (w6.alloc (.cells #[.int .i64 2, .int .i64 0, .int .i64 0, .string noB, .int .i64 0, nilS] 28)) _ _ _ at HA7 HC7
      change Below _ w (w6.alloc (.cells #[.int .i64 2, .int .i64 0, .int .i64 0, .string noB, .int .i64 0, nilS] 28)) at HB
      generalize w6.alloc (.cells #[.int .i64 2, .int .i64 0, .int .i64 0, .string noB, .int .i64 0, nilS] 28) = w7 at VO HA7 HC7 HB ⊢
      simp only [hz7] at HC7 ⊢
      clear hz7
      have tail7 : ∀ (w' : World) (vno : Value), OwnV w' w.heap.size vo [vN 5] → OwnV w' w.heap.size vno [yesV false] → Below w.heap.size w w' → ∀ u0 u1 u2 u3 u4 u7 u8 u9 u12 u13 u14 u15 u16 u17 u18 u19 u20 u21 u22 u23 u24 u25 u26 u27 u28 u29 u30 u31 u32 u33 u34 u35 u36 u37 u38 u39 u40 u41 u42 u43 u44 u45 u46 u47 u48 u49 u50 u51 u52 u53 u54 u55 u56 u57 u58 u59 u60 u61 u62 u63 u64 u65 u66 u67 u68 u69 u70 u71, K ⟨#[u0, u1, u2, u3, u4, vo, .bool true, u7, u8, u9, vno, .bool true, u12, u13, u14, u15, u16, u17, u18, u19, u20, u21, u22, u23, u24, u25, u26, u27, u28, u29, u30, u31, u32, u33, u34, u35, u36, u37, u38, u39, u40, u41, u42, u43, u44, u45, u46, u47, u48, u49, u50, u51, u52, u53, u54, u55, u56, u57, u58, u59, u60, u61, u62, u63, u64, u65, u66, u67, u68, u69, u70, u71], []⟩ w' := by
        intro w' vno VO VN HB u0 u1 u2 u3 u4 u7 u8 u9 u12 u13 u14 u15 u16 u17 u18 u19 u20 u21 u22 u23 u24 u25 u26 u27 u28 u29 u30 u31 u32 u33 u34 u35 u36 u37 u38 u39 u40 u41 u42 u43 u44 u45 u46 u47 u48 u49 u50 u51 u52 u53 u54 u55 u56 u57 u58 u59 u60 u61 u62 u63 u64 u65 u66 u67 u68 u69 u70 u71
        apply hKK
        clear hKK K
        go_wp2_with fail
        refine (num_any 5 w').mono ?_
        rintro e wa ⟨rfl, hba⟩
        have hb8 := below_box wa (.cells (encV (vN 5)).toArray 25)
        have VO8 := ((VO.later hba).later hb8).vsl
        have VN8 := (VN.later hba).later hb8
        have HB8 := below_next (below_next HB hba) hb8
        have VX := (own_one wa wa.heap.size (Nat.le_refl _) (vN 5)).vsl
        change VSl (wa.alloc (.cells #[.int .i64 1, .int .i64 5, .string noB] 25)) _ _ at VO8 VX
        change OwnV (wa.alloc (.cells #[.int .i64 1, .int .i64 5, .string noB] 25)) _ _ _ at VN8
        change Below _ w (wa.alloc (.cells #[.int .i64 1, .int .i64 5, .string noB] 25)) at HB8
        go_wp2_with fail
        generalize wa.alloc (.cells #[.int .i64 1, .int .i64 5, .string noB] 25) = wb at VO8 VX VN8 HB8 ⊢
        clear hb8 VO VN HB hba
        refine (same_any vo _ [vN 5] [vN 5] wb VO8 VX (by simp)).mono ?_
        rintro e wc ⟨rfl, hbc⟩
        rw [ky5]
        have VN9 := VN8.later hbc
        have HB9 := below_next HB8 hbc
        clear VO8 VX VN8 HB8 hbc
        have hb10 := below_box wc (.cells (encV (3, 0, noB)).toArray 25)
        have VN10 := (VN9.later hb10).vsl
        have HB10 := below_next HB9 hb10
        have VY := (own_one wc wc.heap.size (Nat.le_refl _) (3, 0, noB)).vsl
        change VSl (wc.alloc (.cells #[.int .i64 3, .int .i64 0, .string ⟨#[]⟩] 25)) _ _ at VN10 VY
        change Below _ w (wc.alloc (.cells #[.int .i64 3, .int .i64 0, .string ⟨#[]⟩] 25)) at HB10
        go_wp2_with fail
        generalize wc.alloc (.cells #[.int .i64 3, .int .i64 0, .string ⟨#[]⟩] 25) = wd at VN10 VY HB10 ⊢
        clear VN9 HB9 hb10
        refine (same_any vno _ [yesV false] [(3, 0, noB)] wd VN10 VY (by simp)).mono ?_
        rintro e we ⟨rfl, hbe⟩
        rw [kyn]
        go_wp2
        go_ret
        exact ⟨rfl, below_next HB10 hbe⟩
      have HTl7 : Hid (∀ (w' : World) (vno : Value), OwnV w' w.heap.size vo [vN 5] → OwnV w' w.heap.size vno [yesV false] → Below w.heap.size w w' → ∀ u0 u1 u2 u3 u4 u7 u8 u9 u12 u13 u14 u15 u16 u17 u18 u19 u20 u21 u22 u23 u24 u25 u26 u27 u28 u29 u30 u31 u32 u33 u34 u35 u36 u37 u38 u39 u40 u41 u42 u43 u44 u45 u46 u47 u48 u49 u50 u51 u52 u53 u54 u55 u56 u57 u58 u59 u60 u61 u62 u63 u64 u65 u66 u67 u68 u69 u70 u71, K ⟨#[u0, u1, u2, u3, u4, vo, .bool true, u7, u8, u9, vno, .bool true, u12, u13, u14, u15, u16, u17, u18, u19, u20, u21, u22, u23, u24, u25, u26, u27, u28, u29, u30, u31, u32, u33, u34, u35, u36, u37, u38, u39, u40, u41, u42, u43, u44, u45, u46, u47, u48, u49, u50, u51, u52, u53, u54, u55, u56, u57, u58, u59, u60, u61, u62, u63, u64, u65, u66, u67, u68, u69, u70, u71], []⟩ w') := tail7
      clear tail7 hKK
      refine wp_region_held (S := S7 z1 z7) mixed ?_
      have HS : S7 z1 z7 { w7 with drawn := w7.drawn + 1 } := ⟨HA7, HC7⟩
      replace VO : OwnV { w7 with drawn := w7.drawn + 1 } w.heap.size vo [vN 5] := ownV_drew VO
      replace HB : Below w.heap.size w { w7 with drawn := w7.drawn + 1 } := ⟨HB.os, HB.tape, HB.output, HB.size, HB.block⟩
      generalize ({ w7 with drawn := w7.drawn + 1 } : World) = n0 at VO HS HB ⊢
      clear HA7 HC7
      refine takeH 0 47 (.agg (stC 2 noV nilS).toArray) rfl rfl (by kernel_rfl) (by kernel_rfl) (by kernel_rfl) (fun c a w h => h) (yieldsIf_load_mid rfl 28 (.tmp 7) rfl z7 0 rfl (stC 2 noV nilS) _ (fun wx hx => Blk.all hx.2) Tryd.underlying28 rfl infoSt) HS ?_
      simp only [List.setIfInBounds_toArray, List.set_cons_zero, List.set_cons_succ]
      refine takeH 1 48 (.agg (encV (vN 1)).toArray) rfl rfl (by kernel_rfl) (by kernel_rfl) (by kernel_rfl) (fun c a w h => h) (yieldsIf_load_mid rfl 25 (.tmp 1) rfl z1 0 rfl (encV (vN 1)) _ (fun wx hx => Blk.all hx.1) Tryd.underlying25 rfl infoVv) HS ?_
      simp only [List.setIfInBounds_toArray, List.set_cons_zero, List.set_cons_succ]
      refine wpAnyH_all (rs := [2, 10]) (by kernel_rfl) (by simp) (fun i hi => ?_)
      simp only [List.mem_cons, List.not_mem_nil, or_false] at hi
      rcases hi with rfl | rfl
      · refine wpOp_doG 2 (by rfl) (by rfl) ?_
        go_wp2_with fail
        refine (num_any 1 n0).mono ?_
        rintro e wq1 ⟨rfl, hb⟩
        refine ⟨HS.later hb, ?_⟩
        replace HS := HS.later hb
        replace HB := below_next HB hb
        replace VO := VO.later hb
        clear hb
        refine wpAnyH_all (rs := [3, 10]) (by kernel_rfl) (by simp) (fun i hi => ?_)
        simp only [List.mem_cons, List.not_mem_nil, or_false] at hi
        rcases hi with rfl | rfl
        · refine wpOp_doG 3 (by rfl) (by rfl) ?_
          go_wp2_with fail
          refine (num_any 2 wq1).mono ?_
          rintro e wq2 ⟨rfl, hb⟩
          refine ⟨HS.later hb, ?_⟩
          replace HS := HS.later hb
          replace HB := below_next HB hb
          replace VO := VO.later hb
          clear hb
          refine wpAnyH_all (rs := [4, 10]) (by kernel_rfl) (by simp) (fun i hi => ?_)
          simp only [List.mem_cons, List.not_mem_nil, or_false] at hi
          rcases hi with rfl | rfl
          · refine wpOp_doG 4 (by rfl) (by rfl) ?_
            go_wp2_with fail
            have HV := (own_two wq2 wq2.heap.size (Nat.le_refl _) (vN 1) (vN 2)).vsl
            have hb := below_box wq2 (.cells (encV (vN 1) ++ encV (vN 2)).toArray 25)
            obtain ⟨q8, hq8⟩ : ∃ q8, wq2.heap.size = q8 := ⟨_, rfl⟩
            change VSl (wq2.alloc (.cells #[.int .i64 1, .int .i64 1, .string noB, .int .i64 1, .int .i64 2, .string noB] 25)) _ _ at HV
            change Below _ wq2 (wq2.alloc (.cells #[.int .i64 1, .int .i64 1, .string noB, .int .i64 1, .int .i64 2, .string noB] 25)) at hb
            generalize wq2.alloc (.cells #[.int .i64 1, .int .i64 1, .string noB, .int .i64 1, .int .i64 2, .string noB] 25) = wq3 at HV hb ⊢
            simp only [hq8] at HV ⊢
            clear hq8
            refine ⟨HS.later hb, ?_⟩
            replace HS := HS.later hb
            replace HB := below_next HB hb
            replace VO := VO.later hb
            clear hb
            refine wpAnyH_all (rs := [5, 10]) (by kernel_rfl) (by simp) (fun i hi => ?_)
            simp only [List.mem_cons, List.not_mem_nil, or_false] at hi
            rcases hi with rfl | rfl
            · refine wpOp_doG 5 (by rfl) (by rfl) ?_
              go_wp2_with fail
              refine (step_yes 2 noV (vN 1) nilS 3 (.slice (some ⟨q8, 0, none⟩) 2 2) [vN 1, vN 2] wq3 (HT.out.later HB) HV (sz2 _ _ (Nat.zero_le _) (Nat.zero_le _)) (Nat.zero_le _) kso ksm).mono ?_
              rintro e wq4 ⟨vno, rfl, hno, hb⟩
              rw [ksu] at hno
              have VN := hno.base HB.size
              clear hno
              refine ⟨HS.later hb, ?_⟩
              replace HS := HS.later hb
              replace HB := below_next HB hb
              replace VO := VO.later hb
              replace HV := HV.later hb
              clear hb
              clear HV
              refine takeH 6 46 (.tuple #[.agg (stC 2 (nxV 2 noV ⟨vN 1, 3, [vN 1, vN 2]⟩) nilS).toArray, vno, .bool true]) rfl rfl (by kernel_rfl) (by kernel_rfl) (by kernel_rfl) (fun c a w h => h) (.inl ⟨rfl, fun w _ => rfl⟩) HS ?_
              simp only [List.setIfInBounds_toArray, List.set_cons_zero, List.set_cons_succ]
              refine takeH 7 53 (.agg (stC 2 (nxV 2 noV ⟨vN 1, 3, [vN 1, vN 2]⟩) nilS).toArray) rfl rfl (by kernel_rfl) (by kernel_rfl) (by kernel_rfl) (fun c a w h => h) (.inl ⟨rfl, fun w _ => by go_simp⟩) HS ?_
              simp only [List.setIfInBounds_toArray, List.set_cons_zero, List.set_cons_succ]
              refine takeH 8 54 (vno) rfl rfl (by kernel_rfl) (by kernel_rfl) (by kernel_rfl) (fun c a w h => h) (.inl ⟨rfl, fun w _ => by go_simp⟩) HS ?_
              simp only [List.setIfInBounds_toArray, List.set_cons_zero, List.set_cons_succ]
              refine takeH 9 55 (.bool true) rfl rfl (by kernel_rfl) (by kernel_rfl) (by kernel_rfl) (fun c a w h => h) (.inl ⟨rfl, fun w _ => by go_simp⟩) HS ?_
              simp only [List.setIfInBounds_toArray, List.set_cons_zero, List.set_cons_succ]
              refine wpAnyH_all (rs := [10]) (by kernel_rfl) (by simp) (fun i hi => ?_)
              obtain rfl : i = 10 := by simpa using hi
              refine wpOp_doG 10 (by rfl) (by rfl) ?_
              go_wp2_with fail
              have BO := Blk.new wq4 (stC 0 noV nilS) 28
              have hb := below_box wq4 (.cells (stC 0 noV nilS).toArray 28)
              have hqw : w.heap.size ≤ wq4.heap.size := HB.size
              have hq1 : z1 ≠ wq4.heap.size := by have := HS.1.lt; omega
              have hq7 : z7 ≠ wq4.heap.size := by have := HS.2.lt; omega
              obtain ⟨q9, hq9⟩ : ∃ q9, wq4.heap.size = q9 := ⟨_, rfl⟩
              change Blk (wq4.alloc (.cells #[.int .i64 0, .int .i64 0, .int .i64 0, .string ⟨#[]⟩, .int .i64 0, .slice none 0 0] 28)) _ _ _ at BO
              change Below _ wq4 (wq4.alloc (.cells #[.int .i64 0, .int .i64 0, .int .i64 0, .string ⟨#[]⟩, .int .i64 0, .slice none 0 0] 28)) at hb
              generalize wq4.alloc (.cells #[.int .i64 0, .int .i64 0, .int .i64 0, .string ⟨#[]⟩, .int .i64 0, .slice none 0 0] 28) = wq5 at BO hb ⊢
              simp only [hq9] at BO hqw hq1 hq7 ⊢
              clear hq9
              refine ⟨HS.later hb, ?_⟩
              replace HS := HS.later hb
              replace HB := below_next HB hb
              replace VO := VO.later hb
              replace VN := VN.later hb
              clear hb
              refine wpAnyH_all (rs := [11]) (by kernel_rfl) (by simp) (fun i hi => ?_)
              obtain rfl : i = 11 := by simpa using hi
              refine wpOp_doG 11 (by rfl) (by rfl) ?_
              refine wpo_storeB 28 (.tmp 9) (.tmp 53) q9 0 (stC 2 (nxV 2 noV ⟨vN 1, 3, [vN 1, vN 2]⟩) nilS) (stC 0 noV nilS) 28 infoSt (show 0 + 6 ≤ 6 by decide) (stC_one _ _ rfl) rfl rfl rfl BO ?_
              intro wq6 BP ho
              have HS2 : S7 z1 z7 wq6 := ⟨HS.1.oth ho hq1 hq1, HS.2.oth ho hq7 hq7⟩
              have HB2 : Below w.heap.size w wq6 := below_oth HB ho hqw hqw HB.size
              have VO2 : OwnV wq6 w.heap.size vo [vN 5] := VO.oth ho BO (by decide)
              have VN2 : OwnV wq6 w.heap.size vno [yesV false] := VN.oth ho BO (by decide)
              refine ⟨HS2, ?_⟩
              clear ho HS HB VO VN BO BP
              have HS := HS2
              have HB := HB2
              have VO := VO2
              have VN := VN2
              clear HS2 HB2 VO2 VN2
              refine takeH 12 10 (vno) rfl rfl (by kernel_rfl) (by kernel_rfl) (by kernel_rfl) (fun c a w h => h) (.inl ⟨rfl, fun w _ => rfl⟩) HS ?_
              simp only [List.setIfInBounds_toArray, List.set_cons_zero, List.set_cons_succ]
              refine takeH 13 11 (.bool true) rfl rfl (by kernel_rfl) (by kernel_rfl) (by kernel_rfl) (fun c a w h => h) (.inl ⟨rfl, fun w _ => rfl⟩) HS ?_
              simp only [List.setIfInBounds_toArray, List.set_cons_zero, List.set_cons_succ]
              refine wpAnyH_done (by kernel_rfl) ?_ _
              show K _ _
              try simp only [Act.put, List.getElem_toArray, List.getElem_cons_succ, List.getElem_cons_zero]
              exact HTl7.out wq6 vno VO VN HB _ _ _ _ _ _ _ _ _ _ _ _ _ _ _ _ _ _ _ _ _ _ _ _ _ _ _ _ _ _ _ _ _ _ _ _ _ _ _ _ _ _ _ _ _ _ _ _ _ _ _ _ _ _ _ _ _ _ _ _ _ _ _ _ _ _ _ _
            · refine wpOp_doG 10 (by rfl) (by rfl) ?_
              go_wp2_with fail
              have BO := Blk.new wq3 (stC 0 noV nilS) 28
              have hb := below_box wq3 (.cells (stC 0 noV nilS).toArray 28)
              have hqw : w.heap.size ≤ wq3.heap.size := HB.size
              have hq1 : z1 ≠ wq3.heap.size := by have := HS.1.lt; omega
              have hq7 : z7 ≠ wq3.heap.size := by have := HS.2.lt; omega
              obtain ⟨q9, hq9⟩ : ∃ q9, wq3.heap.size = q9 := ⟨_, rfl⟩
              change Blk (wq3.alloc (.cells #[.int .i64 0, .int .i64 0, .int .i64 0, .string ⟨#[]⟩, .int .i64 0, .slice none 0 0] 28)) _ _ _ at BO
              change Below _ wq3 (wq3.alloc (.cells #[.int .i64 0, .int .i64 0, .int .i64 0, .string ⟨#[]⟩, .int .i64 0, .slice none 0 0] 28)) at hb
              generalize wq3.alloc (.cells #[.int .i64 0, .int .i64 0, .int .i64 0, .string ⟨#[]⟩, .int .i64 0, .slice none 0 0] 28) = wq7 at BO hb ⊢
              simp only [hq9] at BO hqw hq1 hq7 ⊢
              clear hq9
              refine ⟨HS.later hb, ?_⟩
              replace HS := HS.later hb
              replace HB := below_next HB hb
              replace VO := VO.later hb
              replace HV := HV.later hb
              clear hb
              refine wpAnyH_all (rs := [5]) (by kernel_rfl) (by simp) (fun i hi => ?_)
              obtain rfl : i = 5 := by simpa using hi
              refine wpOp_doG 5 (by rfl) (by rfl) ?_
              go_wp2_with fail
              refine (step_yes 2 noV (vN 1) nilS 3 (.slice (some ⟨q8, 0, none⟩) 2 2) [vN 1, vN 2] wq7 (HT.out.later HB) HV (sz2 _ _ (Nat.zero_le _) (Nat.zero_le _)) (Nat.zero_le _) kso ksm).mono ?_
              rintro e wq8 ⟨vno, rfl, hno, hb⟩
              rw [ksu] at hno
              have VN := hno.base HB.size
              clear hno
              refine ⟨HS.later hb, ?_⟩
              replace HS := HS.later hb
              replace HB := below_next HB hb
              replace VO := VO.later hb
              replace HV := HV.later hb
              replace BO := BO.later hb
              clear hb
              clear HV
              refine takeH 6 46 (.tuple #[.agg (stC 2 (nxV 2 noV ⟨vN 1, 3, [vN 1, vN 2]⟩) nilS).toArray, vno, .bool true]) rfl rfl (by kernel_rfl) (by kernel_rfl) (by kernel_rfl) (fun c a w h => h) (.inl ⟨rfl, fun w _ => rfl⟩) HS ?_
              simp only [List.setIfInBounds_toArray, List.set_cons_zero, List.set_cons_succ]
              refine takeH 7 53 (.agg (stC 2 (nxV 2 noV ⟨vN 1, 3, [vN 1, vN 2]⟩) nilS).toArray) rfl rfl (by kernel_rfl) (by kernel_rfl) (by kernel_rfl) (fun c a w h => h) (.inl ⟨rfl, fun w _ => by go_simp⟩) HS ?_
              simp only [List.setIfInBounds_toArray, List.set_cons_zero, List.set_cons_succ]
              refine takeH 8 54 (vno) rfl rfl (by kernel_rfl) (by kernel_rfl) (by kernel_rfl) (fun c a w h => h) (.inl ⟨rfl, fun w _ => by go_simp⟩) HS ?_
              simp only [List.setIfInBounds_toArray, List.set_cons_zero, List.set_cons_succ]
              refine takeH 9 55 (.bool true) rfl rfl (by kernel_rfl) (by kernel_rfl) (by kernel_rfl) (fun c a w h => h) (.inl ⟨rfl, fun w _ => by go_simp⟩) HS ?_
              simp only [List.setIfInBounds_toArray, List.set_cons_zero, List.set_cons_succ]
              refine wpAnyH_all (rs := [11]) (by kernel_rfl) (by simp) (fun i hi => ?_)
              obtain rfl : i = 11 := by simpa using hi
              refine wpOp_doG 11 (by rfl) (by rfl) ?_
              refine wpo_storeB 28 (.tmp 9) (.tmp 53) q9 0 (stC 2 (nxV 2 noV ⟨vN 1, 3, [vN 1, vN 2]⟩) nilS) (stC 0 noV nilS) 28 infoSt (show 0 + 6 ≤ 6 by decide) (stC_one _ _ rfl) rfl rfl rfl BO ?_
              intro wq9 BP ho
              have HS2 : S7 z1 z7 wq9 := ⟨HS.1.oth ho hq1 hq1, HS.2.oth ho hq7 hq7⟩
              have HB2 : Below w.heap.size w wq9 := below_oth HB ho hqw hqw HB.size
              have VO2 : OwnV wq9 w.heap.size vo [vN 5] := VO.oth ho BO (by decide)
              have VN2 : OwnV wq9 w.heap.size vno [yesV false] := VN.oth ho BO (by decide)
              refine ⟨HS2, ?_⟩
              clear ho HS HB VO VN BO BP
              have HS := HS2
              have HB := HB2
              have VO := VO2
              have VN := VN2
              clear HS2 HB2 VO2 VN2
              refine takeH 12 10 (vno) rfl rfl (by kernel_rfl) (by kernel_rfl) (by kernel_rfl) (fun c a w h => h) (.inl ⟨rfl, fun w _ => rfl⟩) HS ?_
              simp only [List.setIfInBounds_toArray, List.set_cons_zero, List.set_cons_succ]
              refine takeH 13 11 (.bool true) rfl rfl (by kernel_rfl) (by kernel_rfl) (by kernel_rfl) (fun c a w h => h) (.inl ⟨rfl, fun w _ => rfl⟩) HS ?_
              simp only [List.setIfInBounds_toArray, List.set_cons_zero, List.set_cons_succ]
              refine wpAnyH_done (by kernel_rfl) ?_ _
              show K _ _
              try simp only [Act.put, List.getElem_toArray, List.getElem_cons_succ, List.getElem_cons_zero]
              exact HTl7.out wq9 vno VO VN HB _ _ _ _ _ _ _ _ _ _ _ _ _ _ _ _ _ _ _ _ _ _ _ _ _ _ _ _ _ _ _ _ _ _ _ _ _ _ _ _ _ _ _ _ _ _ _ _ _ _ _ _ _ _ _ _ _ _ _ _ _ _ _ _ _ _ _ _
          · refine wpOp_doG 10 (by rfl) (by rfl) ?_
            go_wp2_with fail
            have BO := Blk.new wq2 (stC 0 noV nilS) 28
            have hb := below_box wq2 (.cells (stC 0 noV nilS).toArray 28)
            have hqw : w.heap.size ≤ wq2.heap.size := HB.size
            have hq1 : z1 ≠ wq2.heap.size := by have := HS.1.lt; omega
            have hq7 : z7 ≠ wq2.heap.size := by have := HS.2.lt; omega
            obtain ⟨q9, hq9⟩ : ∃ q9, wq2.heap.size = q9 := ⟨_, rfl⟩
            change Blk (wq2.alloc (.cells #[.int .i64 0, .int .i64 0, .int .i64 0, .string ⟨#[]⟩, .int .i64 0, .slice none 0 0] 28)) _ _ _ at BO
            change Below _ wq2 (wq2.alloc (.cells #[.int .i64 0, .int .i64 0, .int .i64 0, .string ⟨#[]⟩, .int .i64 0, .slice none 0 0] 28)) at hb
            generalize wq2.alloc (.cells #[.int .i64 0, .int .i64 0, .int .i64 0, .string ⟨#[]⟩, .int .i64 0, .slice none 0 0] 28) = wq10 at BO hb ⊢
            simp only [hq9] at BO hqw hq1 hq7 ⊢
            clear hq9
            refine ⟨HS.later hb, ?_⟩
            replace HS := HS.later hb
            replace HB := below_next HB hb
            replace VO := VO.later hb
            clear hb
            refine wpAnyH_all (rs := [4]) (by kernel_rfl) (by simp) (fun i hi => ?_)
            obtain rfl : i = 4 := by simpa using hi
            refine wpOp_doG 4 (by rfl) (by rfl) ?_
            go_wp2_with fail
            have HV := (own_two wq10 wq10.heap.size (Nat.le_refl _) (vN 1) (vN 2)).vsl
            have hb := below_box wq10 (.cells (encV (vN 1) ++ encV (vN 2)).toArray 25)
            obtain ⟨q8, hq8⟩ : ∃ q8, wq10.heap.size = q8 := ⟨_, rfl⟩
            change VSl (wq10.alloc (.cells #[.int .i64 1, .int .i64 1, .string noB, .int .i64 1, .int .i64 2, .string noB] 25)) _ _ at HV
            change Below _ wq10 (wq10.alloc (.cells #[.int .i64 1, .int .i64 1, .string noB, .int .i64 1, .int .i64 2, .string noB] 25)) at hb
            generalize wq10.alloc (.cells #[.int .i64 1, .int .i64 1, .string noB, .int .i64 1, .int .i64 2, .string noB] 25) = wq11 at HV hb ⊢
            simp only [hq8] at HV ⊢
            clear hq8
            refine ⟨HS.later hb, ?_⟩
            replace HS := HS.later hb
            replace HB := below_next HB hb
            replace VO := VO.later hb
            replace BO := BO.later hb
            clear hb
            refine wpAnyH_all (rs := [5]) (by kernel_rfl) (by simp) (fun i hi => ?_)
            obtain rfl : i = 5 := by simpa using hi
            refine wpOp_doG 5 (by rfl) (by rfl) ?_
            go_wp2_with fail
            refine (step_yes 2 noV (vN 1) nilS 3 (.slice (some ⟨q8, 0, none⟩) 2 2) [vN 1, vN 2] wq11 (HT.out.later HB) HV (sz2 _ _ (Nat.zero_le _) (Nat.zero_le _)) (Nat.zero_le _) kso ksm).mono ?_
            rintro e wq12 ⟨vno, rfl, hno, hb⟩
            rw [ksu] at hno
            have VN := hno.base HB.size
            clear hno
            refine ⟨HS.later hb, ?_⟩
            replace HS := HS.later hb
            replace HB := below_next HB hb
            replace VO := VO.later hb
            replace BO := BO.later hb
            replace HV := HV.later hb
            clear hb
            clear HV
            refine takeH 6 46 (.tuple #[.agg (stC 2 (nxV 2 noV ⟨vN 1, 3, [vN 1, vN 2]⟩) nilS).toArray, vno, .bool true]) rfl rfl (by kernel_rfl) (by kernel_rfl) (by kernel_rfl) (fun c a w h => h) (.inl ⟨rfl, fun w _ => rfl⟩) HS ?_
            simp only [List.setIfInBounds_toArray, List.set_cons_zero, List.set_cons_succ]
            refine takeH 7 53 (.agg (stC 2 (nxV 2 noV ⟨vN 1, 3, [vN 1, vN 2]⟩) nilS).toArray) rfl rfl (by kernel_rfl) (by kernel_rfl) (by kernel_rfl) (fun c a w h => h) (.inl ⟨rfl, fun w _ => by go_simp⟩) HS ?_
            simp only [List.setIfInBounds_toArray, List.set_cons_zero, List.set_cons_succ]
            refine takeH 8 54 (vno) rfl rfl (by kernel_rfl) (by kernel_rfl) (by kernel_rfl) (fun c a w h => h) (.inl ⟨rfl, fun w _ => by go_simp⟩) HS ?_
            simp only [List.setIfInBounds_toArray, List.set_cons_zero, List.set_cons_succ]
            refine takeH 9 55 (.bool true) rfl rfl (by kernel_rfl) (by kernel_rfl) (by kernel_rfl) (fun c a w h => h) (.inl ⟨rfl, fun w _ => by go_simp⟩) HS ?_
            simp only [List.setIfInBounds_toArray, List.set_cons_zero, List.set_cons_succ]
            refine wpAnyH_all (rs := [11]) (by kernel_rfl) (by simp) (fun i hi => ?_)
            obtain rfl : i = 11 := by simpa using hi
            refine wpOp_doG 11 (by rfl) (by rfl) ?_
            refine wpo_storeB 28 (.tmp 9) (.tmp 53) q9 0 (stC 2 (nxV 2 noV ⟨vN 1, 3, [vN 1, vN 2]⟩) nilS) (stC 0 noV nilS) 28 infoSt (show 0 + 6 ≤ 6 by decide) (stC_one _ _ rfl) rfl rfl rfl BO ?_
            intro wq13 BP ho
            have HS2 : S7 z1 z7 wq13 := ⟨HS.1.oth ho hq1 hq1, HS.2.oth ho hq7 hq7⟩
            have HB2 : Below w.heap.size w wq13 := below_oth HB ho hqw hqw HB.size
            have VO2 : OwnV wq13 w.heap.size vo [vN 5] := VO.oth ho BO (by decide)
            have VN2 : OwnV wq13 w.heap.size vno [yesV false] := VN.oth ho BO (by decide)
            refine ⟨HS2, ?_⟩
            clear ho HS HB VO VN BO BP
            have HS := HS2
            have HB := HB2
            have VO := VO2
            have VN := VN2
            clear HS2 HB2 VO2 VN2
            refine takeH 12 10 (vno) rfl rfl (by kernel_rfl) (by kernel_rfl) (by kernel_rfl) (fun c a w h => h) (.inl ⟨rfl, fun w _ => rfl⟩) HS ?_
            simp only [List.setIfInBounds_toArray, List.set_cons_zero, List.set_cons_succ]
            refine takeH 13 11 (.bool true) rfl rfl (by kernel_rfl) (by kernel_rfl) (by kernel_rfl) (fun c a w h => h) (.inl ⟨rfl, fun w _ => rfl⟩) HS ?_
            simp only [List.setIfInBounds_toArray, List.set_cons_zero, List.set_cons_succ]
            refine wpAnyH_done (by kernel_rfl) ?_ _
            show K _ _
            try simp only [Act.put, List.getElem_toArray, List.getElem_cons_succ, List.getElem_cons_zero]
            exact HTl7.out wq13 vno VO VN HB _ _ _ _ _ _ _ _ _ _ _ _ _ _ _ _ _ _ _ _ _ _ _ _ _ _ _ _ _ _ _ _ _ _ _ _ _ _ _ _ _ _ _ _ _ _ _ _ _ _ _ _ _ _ _ _ _ _ _ _ _ _ _ _ _ _ _ _
        · refine wpOp_doG 10 (by rfl) (by rfl) ?_
          go_wp2_with fail
          have BO := Blk.new wq1 (stC 0 noV nilS) 28
          have hb := below_box wq1 (.cells (stC 0 noV nilS).toArray 28)
          have hqw : w.heap.size ≤ wq1.heap.size := HB.size
          have hq1 : z1 ≠ wq1.heap.size := by have := HS.1.lt; omega
          have hq7 : z7 ≠ wq1.heap.size := by have := HS.2.lt; omega
          obtain ⟨q9, hq9⟩ : ∃ q9, wq1.heap.size = q9 := ⟨_, rfl⟩
          change Blk (wq1.alloc (.cells #[.int .i64 0, .int .i64 0, .int .i64 0, .string ⟨#[]⟩, .int .i64 0, .slice none 0 0] 28)) _ _ _ at BO
          change Below _ wq1 (wq1.alloc (.cells #[.int .i64 0, .int .i64 0, .int .i64 0, .string ⟨#[]⟩, .int .i64 0, .slice none 0 0] 28)) at hb
          generalize wq1.alloc (.cells #[.int .i64 0, .int .i64 0, .int .i64 0, .string ⟨#[]⟩, .int .i64 0, .slice none 0 0] 28) = wq14 at BO hb ⊢
          simp only [hq9] at BO hqw hq1 hq7 ⊢
          clear hq9
          refine ⟨HS.later hb, ?_⟩
          replace HS := HS.later hb
          replace HB := below_next HB hb
          replace VO := VO.later hb
          clear hb
          refine wpAnyH_all (rs := [3]) (by kernel_rfl) (by simp) (fun i hi => ?_)
          obtain rfl : i = 3 := by simpa using hi
          refine wpOp_doG 3 (by rfl) (by rfl) ?_
          go_wp2_with fail
          refine (num_any 2 wq14).mono ?_
          rintro e wq15 ⟨rfl, hb⟩
          refine ⟨HS.later hb, ?_⟩
          replace HS := HS.later hb
          replace HB := below_next HB hb
          replace VO := VO.later hb
          replace BO := BO.later hb
          clear hb
          refine wpAnyH_all (rs := [4]) (by kernel_rfl) (by simp) (fun i hi => ?_)
          obtain rfl : i = 4 := by simpa using hi
          refine wpOp_doG 4 (by rfl) (by rfl) ?_
          go_wp2_with fail
          have HV := (own_two wq15 wq15.heap.size (Nat.le_refl _) (vN 1) (vN 2)).vsl
          have hb := below_box wq15 (.cells (encV (vN 1) ++ encV (vN 2)).toArray 25)
          obtain ⟨q8, hq8⟩ : ∃ q8, wq15.heap.size = q8 := ⟨_, rfl⟩
          change VSl (wq15.alloc (.cells #[.int .i64 1, .int .i64 1, .string noB, .int .i64 1, .int .i64 2, .string noB] 25)) _ _ at HV
          change Below _ wq15 (wq15.alloc (.cells #[.int .i64 1, .int .i64 1, .string noB, .int .i64 1, .int .i64 2, .string noB] 25)) at hb
          generalize wq15.alloc (.cells #[.int .i64 1, .int .i64 1, .string noB, .int .i64 1, .int .i64 2, .string noB] 25) = wq16 at HV hb ⊢
          simp only [hq8] at HV ⊢
          clear hq8
          refine ⟨HS.later hb, ?_⟩
          replace HS := HS.later hb
          replace HB := below_next HB hb
          replace VO := VO.later hb
          replace BO := BO.later hb
          clear hb
          refine wpAnyH_all (rs := [5]) (by kernel_rfl) (by simp) (fun i hi => ?_)
          obtain rfl : i = 5 := by simpa using hi
          refine wpOp_doG 5 (by rfl) (by rfl) ?_
          go_wp2_with fail
          refine (step_yes 2 noV (vN 1) nilS 3 (.slice (some ⟨q8, 0, none⟩) 2 2) [vN 1, vN 2] wq16 (HT.out.later HB) HV (sz2 _ _ (Nat.zero_le _) (Nat.zero_le _)) (Nat.zero_le _) kso ksm).mono ?_
          rintro e wq17 ⟨vno, rfl, hno, hb⟩
          rw [ksu] at hno
          have VN := hno.base HB.size
          clear hno
          refine ⟨HS.later hb, ?_⟩
          replace HS := HS.later hb
          replace HB := below_next HB hb
          replace VO := VO.later hb
          replace BO := BO.later hb
          replace HV := HV.later hb
          clear hb
          clear HV
          refine takeH 6 46 (.tuple #[.agg (stC 2 (nxV 2 noV ⟨vN 1, 3, [vN 1, vN 2]⟩) nilS).toArray, vno, .bool true]) rfl rfl (by kernel_rfl) (by kernel_rfl) (by kernel_rfl) (fun c a w h => h) (.inl ⟨rfl, fun w _ => rfl⟩) HS ?_
          simp only [List.setIfInBounds_toArray, List.set_cons_zero, List.set_cons_succ]
          refine takeH 7 53 (.agg (stC 2 (nxV 2 noV ⟨vN 1, 3, [vN 1, vN 2]⟩) nilS).toArray) rfl rfl (by kernel_rfl) (by kernel_rfl) (by kernel_rfl) (fun c a w h => h) (.inl ⟨rfl, fun w _ => by go_simp⟩) HS ?_
          simp only [List.setIfInBounds_toArray, List.set_cons_zero, List.set_cons_succ]
          refine takeH 8 54 (vno) rfl rfl (by kernel_rfl) (by kernel_rfl) (by kernel_rfl) (fun c a w h => h) (.inl ⟨rfl, fun w _ => by go_simp⟩) HS ?_
          simp only [List.setIfInBounds_toArray, List.set_cons_zero, List.set_cons_succ]
          refine takeH 9 55 (.bool true) rfl rfl (by kernel_rfl) (by kernel_rfl) (by kernel_rfl) (fun c a w h => h) (.inl ⟨rfl, fun w _ => by go_simp⟩) HS ?_
          simp only [List.setIfInBounds_toArray, List.set_cons_zero, List.set_cons_succ]
          refine wpAnyH_all (rs := [11]) (by kernel_rfl) (by simp) (fun i hi => ?_)
          obtain rfl : i = 11 := by simpa using hi
          refine wpOp_doG 11 (by rfl) (by rfl) ?_
          refine wpo_storeB 28 (.tmp 9) (.tmp 53) q9 0 (stC 2 (nxV 2 noV ⟨vN 1, 3, [vN 1, vN 2]⟩) nilS) (stC 0 noV nilS) 28 infoSt (show 0 + 6 ≤ 6 by decide) (stC_one _ _ rfl) rfl rfl rfl BO ?_
          intro wq18 BP ho
          have HS2 : S7 z1 z7 wq18 := ⟨HS.1.oth ho hq1 hq1, HS.2.oth ho hq7 hq7⟩
          have HB2 : Below w.heap.size w wq18 := below_oth HB ho hqw hqw HB.size
          have VO2 : OwnV wq18 w.heap.size vo [vN 5] := VO.oth ho BO (by decide)
          have VN2 : OwnV wq18 w.heap.size vno [yesV false] := VN.oth ho BO (by decide)
          refine ⟨HS2, ?_⟩
          clear ho HS HB VO VN BO BP
          have HS := HS2
          have HB := HB2
          have VO := VO2
          have VN := VN2
          clear HS2 HB2 VO2 VN2
          refine takeH 12 10 (vno) rfl rfl (by kernel_rfl) (by kernel_rfl) (by kernel_rfl) (fun c a w h => h) (.inl ⟨rfl, fun w _ => rfl⟩) HS ?_
          simp only [List.setIfInBounds_toArray, List.set_cons_zero, List.set_cons_succ]
          refine takeH 13 11 (.bool true) rfl rfl (by kernel_rfl) (by kernel_rfl) (by kernel_rfl) (fun c a w h => h) (.inl ⟨rfl, fun w _ => rfl⟩) HS ?_
          simp only [List.setIfInBounds_toArray, List.set_cons_zero, List.set_cons_succ]
          refine wpAnyH_done (by kernel_rfl) ?_ _
          show K _ _
          try simp only [Act.put, List.getElem_toArray, List.getElem_cons_succ, List.getElem_cons_zero]
          exact HTl7.out wq18 vno VO VN HB _ _ _ _ _ _ _ _ _ _ _ _ _ _ _ _ _ _ _ _ _ _ _ _ _ _ _ _ _ _ _ _ _ _ _ _ _ _ _ _ _ _ _ _ _ _ _ _ _ _ _ _ _ _ _ _ _ _ _ _ _ _ _ _ _ _ _ _
      · refine wpOp_doG 10 (by rfl) (by rfl) ?_
        go_wp2_with fail
        have BO := Blk.new n0 (stC 0 noV nilS) 28
        have hb := below_box n0 (.cells (stC 0 noV nilS).toArray 28)
        have hqw : w.heap.size ≤ n0.heap.size := HB.size
        have hq1 : z1 ≠ n0.heap.size := by have := HS.1.lt; omega
        have hq7 : z7 ≠ n0.heap.size := by have := HS.2.lt; omega
        obtain ⟨q9, hq9⟩ : ∃ q9, n0.heap.size = q9 := ⟨_, rfl⟩
        change Blk (n0.alloc (.cells #[.int .i64 0, .int .i64 0, .int .i64 0, .string ⟨#[]⟩, .int .i64 0, .slice none 0 0] 28)) _ _ _ at BO
        change Below _ n0 (n0.alloc (.cells #[.int .i64 0, .int .i64 0, .int .i64 0, .string ⟨#[]⟩, .int .i64 0, .slice none 0 0] 28)) at hb
        generalize n0.alloc (.cells #[.int .i64 0, .int .i64 0, .int .i64 0, .string ⟨#[]⟩, .int .i64 0, .slice none 0 0] 28) = wq19 at BO hb ⊢
        simp only [hq9] at BO hqw hq1 hq7 ⊢
        clear hq9
        refine ⟨HS.later hb, ?_⟩
        replace HS := HS.later hb
        replace HB := below_next HB hb
        replace VO := VO.later hb
        clear hb
        refine wpAnyH_all (rs := [2]) (by kernel_rfl) (by simp) (fun i hi => ?_)
        obtain rfl : i = 2 := by simpa using hi
        refine wpOp_doG 2 (by rfl) (by rfl) ?_
        go_wp2_with fail
        refine (num_any 1 wq19).mono ?_
        rintro e wq20 ⟨rfl, hb⟩
        refine ⟨HS.later hb, ?_⟩
        replace HS := HS.later hb
        replace HB := below_next HB hb
        replace VO := VO.later hb
        replace BO := BO.later hb
        clear hb
        refine wpAnyH_all (rs := [3]) (by kernel_rfl) (by simp) (fun i hi => ?_)
        obtain rfl : i = 3 := by simpa using hi
        refine wpOp_doG 3 (by rfl) (by rfl) ?_
        go_wp2_with fail
        refine (num_any 2 wq20).mono ?_
        rintro e wq21 ⟨rfl, hb⟩
        refine ⟨HS.later hb, ?_⟩
        replace HS := HS.later hb
        replace HB := below_next HB hb
        replace VO := VO.later hb
        replace BO := BO.later hb
        clear hb
        refine wpAnyH_all (rs := [4]) (by kernel_rfl) (by simp) (fun i hi => ?_)
        obtain rfl : i = 4 := by simpa using hi
        refine wpOp_doG 4 (by rfl) (by rfl) ?_
        go_wp2_with fail
        have HV := (own_two wq21 wq21.heap.size (Nat.le_refl _) (vN 1) (vN 2)).vsl
        have hb := below_box wq21 (.cells (encV (vN 1) ++ encV (vN 2)).toArray 25)
        obtain ⟨q8, hq8⟩ : ∃ q8, wq21.heap.size = q8 := ⟨_, rfl⟩
        change VSl (wq21.alloc (.cells #[.int .i64 1, .int .i64 1, .string noB, .int .i64 1, .int .i64 2, .string noB] 25)) _ _ at HV
        change Below _ wq21 (wq21.alloc (.cells #[.int .i64 1, .int .i64 1, .string noB, .int .i64 1, .int .i64 2, .string noB] 25)) at hb
        generalize wq21.alloc (.cells #[.int .i64 1, .int .i64 1, .string noB, .int .i64 1, .int .i64 2, .string noB] 25) = wq22 at HV hb ⊢
        simp only [hq8] at HV ⊢
        clear hq8
        refine ⟨HS.later hb, ?_⟩
        replace HS := HS.later hb
        replace HB := below_next HB hb
        replace VO := VO.later hb
        replace BO := BO.later hb
        clear hb
        refine wpAnyH_all (rs := [5]) (by kernel_rfl) (by simp) (fun i hi => ?_)
        obtain rfl : i = 5 := by simpa using hi
        refine wpOp_doG 5 (by rfl) (by rfl) ?_
        go_wp2_with fail
        refine (step_yes 2 noV (vN 1) nilS 3 (.slice (some ⟨q8, 0, none⟩) 2 2) [vN 1, vN 2] wq22 (HT.out.later HB) HV (sz2 _ _ (Nat.zero_le _) (Nat.zero_le _)) (Nat.zero_le _) kso ksm).mono ?_
        rintro e wq23 ⟨vno, rfl, hno, hb⟩
        rw [ksu] at hno
        have VN := hno.base HB.size
        clear hno
        refine ⟨HS.later hb, ?_⟩
        replace HS := HS.later hb
        replace HB := below_next HB hb
        replace VO := VO.later hb
        replace BO := BO.later hb
        replace HV := HV.later hb
        clear hb
        clear HV
        refine takeH 6 46 (.tuple #[.agg (stC 2 (nxV 2 noV ⟨vN 1, 3, [vN 1, vN 2]⟩) nilS).toArray, vno, .bool true]) rfl rfl (by kernel_rfl) (by kernel_rfl) (by kernel_rfl) (fun c a w h => h) (.inl ⟨rfl, fun w _ => rfl⟩) HS ?_
        simp only [List.setIfInBounds_toArray, List.set_cons_zero, List.set_cons_succ]
        refine takeH 7 53 (.agg (stC 2 (nxV 2 noV ⟨vN 1, 3, [vN 1, vN 2]⟩) nilS).toArray) rfl rfl (by kernel_rfl) (by kernel_rfl) (by kernel_rfl) (fun c a w h => h) (.inl ⟨rfl, fun w _ => by go_simp⟩) HS ?_
        simp only [List.setIfInBounds_toArray, List.set_cons_zero, List.set_cons_succ]
        refine takeH 8 54 (vno) rfl rfl (by kernel_rfl) (by kernel_rfl) (by kernel_rfl) (fun c a w h => h) (.inl ⟨rfl, fun w _ => by go_simp⟩) HS ?_
        simp only [List.setIfInBounds_toArray, List.set_cons_zero, List.set_cons_succ]
        refine takeH 9 55 (.bool true) rfl rfl (by kernel_rfl) (by kernel_rfl) (by kernel_rfl) (fun c a w h => h) (.inl ⟨rfl, fun w _ => by go_simp⟩) HS ?_
        simp only [List.setIfInBounds_toArray, List.set_cons_zero, List.set_cons_succ]
        refine wpAnyH_all (rs := [11]) (by kernel_rfl) (by simp) (fun i hi => ?_)
        obtain rfl : i = 11 := by simpa using hi
        refine wpOp_doG 11 (by rfl) (by rfl) ?_
        refine wpo_storeB 28 (.tmp 9) (.tmp 53) q9 0 (stC 2 (nxV 2 noV ⟨vN 1, 3, [vN 1, vN 2]⟩) nilS) (stC 0 noV nilS) 28 infoSt (show 0 + 6 ≤ 6 by decide) (stC_one _ _ rfl) rfl rfl rfl BO ?_
        intro wq24 BP ho
        have HS2 : S7 z1 z7 wq24 := ⟨HS.1.oth ho hq1 hq1, HS.2.oth ho hq7 hq7⟩
        have HB2 : Below w.heap.size w wq24 := below_oth HB ho hqw hqw HB.size
        have VO2 : OwnV wq24 w.heap.size vo [vN 5] := VO.oth ho BO (by decide)
        have VN2 : OwnV wq24 w.heap.size vno [yesV false] := VN.oth ho BO (by decide)
        refine ⟨HS2, ?_⟩
        clear ho HS HB VO VN BO BP
        have HS := HS2
        have HB := HB2
        have VO := VO2
        have VN := VN2
        clear HS2 HB2 VO2 VN2
        refine takeH 12 10 (vno) rfl rfl (by kernel_rfl) (by kernel_rfl) (by kernel_rfl) (fun c a w h => h) (.inl ⟨rfl, fun w _ => rfl⟩) HS ?_
        simp only [List.setIfInBounds_toArray, List.set_cons_zero, List.set_cons_succ]
        refine takeH 13 11 (.bool true) rfl rfl (by kernel_rfl) (by kernel_rfl) (by kernel_rfl) (fun c a w h => h) (.inl ⟨rfl, fun w _ => rfl⟩) HS ?_
        simp only [List.setIfInBounds_toArray, List.set_cons_zero, List.set_cons_succ]
        refine wpAnyH_done (by kernel_rfl) ?_ _
        show K _ _
        try simp only [Act.put, List.getElem_toArray, List.getElem_cons_succ, List.getElem_cons_zero]
        exact HTl7.out wq24 vno VO VN HB _ _ _ _ _ _ _ _ _ _ _ _ _ _ _ _ _ _ _ _ _ _ _ _ _ _ _ _ _ _ _ _ _ _ _ _ _ _ _ _ _ _ _ _ _ _ _ _ _ _ _ _ _ _ _ _ _ _ _ _ _ _ _ _ _ _ _ _
    have HTl4 : Hid (∀ w', Blk w' z1 (encV (vN 1)) 25 → Blk w' z2 (stC 9 (vN 5) nilS) 28 → Below w.heap.size w w' → ∀ u0 u3 u4 u5 u6 u7 u8 u9 u10 u11 u12 u13 u14 u15 u16 u17 u18 u19 u20 u21 u22 u23 u24 u25 u26 u27 u28 u29 u30 u31 u32 u33 u34 u35 u36 u37 u38 u39 u40 u41 u42 u43 u44 u45 u46 u47 u48 u49 u50 u51 u52 u53 u54 u55 u56 u57 u58 u59 u60 u61 u62 u63 u64 u65 u66 u67 u68 u69 u70 u71, K ⟨#[u0, .pointer (some ⟨z1, 0, none⟩), .pointer (some ⟨z2, 0, none⟩), u3, u4, u5, u6, u7, u8, u9, u10, u11, u12, u13, u14, u15, u16, u17, u18, u19, u20, u21, u22, u23, u24, u25, u26, u27, u28, u29, u30, u31, u32, u33, u34, u35, u36, u37, u38, u39, u40, u41, u42, u43, u44, u45, u46, u47, u48, u49, u50, u51, u52, u53, u54, u55, u56, u57, u58, u59, u60, u61, u62, u63, u64, u65, u66, u67, u68, u69, u70, u71], []⟩ w') := tail4
    clear tail4 hKK
    refine wp_region_held (S := fun wx => Blk wx z1 (encV (vN 1)) 25) mixed ?_
    replace HS : Blk { w' with drawn := w'.drawn + 1 } z1 (encV (vN 1)) 25 := HS
    replace HZ2 : Blk { w' with drawn := w'.drawn + 1 } z2 (stC 9 (vN 5) nilS) 28 := HZ2
    replace HB : Below w.heap.size w { w' with drawn := w'.drawn + 1 } := ⟨HB.os, HB.tape, HB.output, HB.size, HB.block⟩
    generalize ({ w' with drawn := w'.drawn + 1 } : World) = n0 at HZ2 HS HB ⊢
    refine takeH 1 28 (.agg #[.int .i64 1, .int .i64 1, .string noB]) rfl rfl (by kernel_rfl) (by kernel_rfl) (by kernel_rfl) (fun c a w h => h) (yieldsIf_load_mid rfl 25 (.tmp 1) rfl z1 0 rfl (encV (vN 1)) _ (fun wx hx => Blk.all hx) Tryd.underlying25 rfl infoVv) HS ?_
    simp only [List.setIfInBounds_toArray, List.set_cons_zero, List.set_cons_succ]
    refine wpAnyH_all (rs := [0, 2]) (by kernel_rfl) (by simp) (fun i hi => ?_)
    simp only [List.mem_cons, List.not_mem_nil, or_false] at hi
    rcases hi with rfl | rfl
    · refine wpOp_doG 0 (by rfl) (by rfl) ?_
      refine wp_load_mid 28 (.tmp 2) rfl z2 0 rfl (stC 9 (vN 5) nilS) _ (Blk.all HZ2) Tryd.underlying28 rfl infoSt ?_
      simp only [Act.put, List.setIfInBounds_toArray, List.set_cons_zero, List.set_cons_succ]
      obtain ⟨wq1, hnw⟩ : ∃ n, n = n0 := ⟨_, rfl⟩
      subst hnw
      have hb : Below wq1.heap.size wq1 wq1 := Below.refl _ _
      refine ⟨HS.later hb, ?_⟩
      replace HS := HS.later hb
      replace HB := below_next HB hb
      replace HZ2 := HZ2.later hb
      clear hb
      refine wpAnyH_all (rs := [2]) (by kernel_rfl) (by simp) (fun i hi => ?_)
      obtain rfl : i = 2 := by simpa using hi
      refine wpOp_doG 2 (by rfl) (by rfl) ?_
      go_wp2_with fail
      refine (num_any 3 wq1).mono ?_
      rintro e wq2 ⟨rfl, hb⟩
      refine ⟨HS.later hb, ?_⟩
      replace HS := HS.later hb
      replace HB := below_next HB hb
      replace HZ2 := HZ2.later hb
      clear hb
      refine wpAnyH_all (rs := [3]) (by kernel_rfl) (by simp) (fun i hi => ?_)
      obtain rfl : i = 3 := by simpa using hi
      refine wpOp_doG 3 (by rfl) (by rfl) ?_
      go_wp2_with fail
      have HV := (own_one wq2 wq2.heap.size (Nat.le_refl _) (vN 3)).vsl
      have hb := below_box wq2 (.cells (encV (vN 3)).toArray 25)
      obtain ⟨q8, hq8⟩ : ∃ q8, wq2.heap.size = q8 := ⟨_, rfl⟩
      change VSl (wq2.alloc (.cells #[.int .i64 1, .int .i64 3, .string noB] 25)) _ _ at HV
      change Below _ wq2 (wq2.alloc (.cells #[.int .i64 1, .int .i64 3, .string noB] 25)) at hb
      generalize wq2.alloc (.cells #[.int .i64 1, .int .i64 3, .string noB] 25) = wq3 at HV hb ⊢
      simp only [hq8] at HV ⊢
      clear hq8
      refine ⟨HS.later hb, ?_⟩
      replace HS := HS.later hb
      replace HB := below_next HB hb
      replace HZ2 := HZ2.later hb
      clear hb
      refine wpAnyH_all (rs := [4]) (by kernel_rfl) (by simp) (fun i hi => ?_)
      obtain rfl : i = 4 := by simpa using hi
      refine wpOp_doG 4 (by rfl) (by rfl) ?_
      go_wp2_with fail
      refine (step_yes 9 (vN 5) (vN 1) nilS 1 (.slice (some ⟨q8, 0, none⟩) 1 1) [vN 3] wq3 (HT.out.later HB) HV (sz1 _ (Nat.zero_le _)) (Nat.zero_le _) k5o k3m).mono ?_
      rintro e wq4 ⟨vo, rfl, -, hb⟩
      rw [k3n]
      refine ⟨HS.later hb, ?_⟩
      replace HS := HS.later hb
      replace HB := below_next HB hb
      replace HZ2 := HZ2.later hb
      replace HV := HV.later hb
      clear hb
      clear HV
      refine takeH 5 26 (.tuple #[.agg (stC 9 (vN 5) nilS).toArray, vo, .bool true]) rfl rfl (by kernel_rfl) (by kernel_rfl) (by kernel_rfl) (fun c a w h => h) (.inl ⟨rfl, fun w _ => rfl⟩) HS ?_
      simp only [List.setIfInBounds_toArray, List.set_cons_zero, List.set_cons_succ]
      refine takeH 6 32 (.agg (stC 9 (vN 5) nilS).toArray) rfl rfl (by kernel_rfl) (by kernel_rfl) (by kernel_rfl) (fun c a w h => h) (.inl ⟨rfl, fun w _ => by go_simp⟩) HS ?_
      simp only [List.setIfInBounds_toArray, List.set_cons_zero, List.set_cons_succ]
      refine takeH 7 33 (vo) rfl rfl (by kernel_rfl) (by kernel_rfl) (by kernel_rfl) (fun c a w h => h) (.inl ⟨rfl, fun w _ => by go_simp⟩) HS ?_
      simp only [List.setIfInBounds_toArray, List.set_cons_zero, List.set_cons_succ]
      refine takeH 8 34 (.bool true) rfl rfl (by kernel_rfl) (by kernel_rfl) (by kernel_rfl) (fun c a w h => h) (.inl ⟨rfl, fun w _ => by go_simp⟩) HS ?_
      simp only [List.setIfInBounds_toArray, List.set_cons_zero, List.set_cons_succ]
      refine wpAnyH_all (rs := [9]) (by kernel_rfl) (by simp) (fun i hi => ?_)
      obtain rfl : i = 9 := by simpa using hi
      refine wpOp_doG 9 (by rfl) (by rfl) ?_
      refine wpo_storeB 28 (.tmp 2) (.tmp 32) z2 0 (stC 9 (vN 5) nilS) (stC 9 (vN 5) nilS) 28 infoSt (show 0 + 6 ≤ 6 by decide) (stC_one _ _ rfl) rfl rfl rfl HZ2 ?_
      intro wq5 BP ho
      replace BP : Blk wq5 z2 (stC 9 (vN 5) nilS) 28 := BP
      have HS2 : Blk wq5 z1 (encV (vN 1)) 25 := HS.oth ho HNe.out HNe.out
      have HB2 : Below w.heap.size w wq5 := below_oth HB ho HLe.out HLe.out HB.size
      refine ⟨HS2, ?_⟩
      clear ho HZ2 HS HB
      have HS := HS2
      have HB := HB2
      clear HS2 HB2
      refine wpAnyH_done (by kernel_rfl) ?_ _
      show K _ _
      simp only [Act.put, List.getElem_toArray, List.getElem_cons_succ, List.getElem_cons_zero]
      exact HTl4.out wq5 HS BP HB _ _ _ _ _ _ _ _ _ _ _ _ _ _ _ _ _ _ _ _ _ _ _ _ _ _ _ _ _ _ _ _ _ _ _ _ _ _ _ _ _ _ _ _ _ _ _ _ _ _ _ _ _ _ _ _ _ _ _ _ _ _ _ _ _ _ _ _ _ _
    · refine wpOp_doG 2 (by rfl) (by rfl) ?_
      go_wp2_with fail
      refine (num_any 3 n0).mono ?_
      rintro e wq6 ⟨rfl, hb⟩
      refine ⟨HS.later hb, ?_⟩
      replace HS := HS.later hb
      replace HB := below_next HB hb
      replace HZ2 := HZ2.later hb
      clear hb
      refine wpAnyH_all (rs := [0, 3]) (by kernel_rfl) (by simp) (fun i hi => ?_)
      simp only [List.mem_cons, List.not_mem_nil, or_false] at hi
      rcases hi with rfl | rfl
      · refine wpOp_doG 0 (by rfl) (by rfl) ?_
        refine wp_load_mid 28 (.tmp 2) rfl z2 0 rfl (stC 9 (vN 5) nilS) _ (Blk.all HZ2) Tryd.underlying28 rfl infoSt ?_
        simp only [Act.put, List.setIfInBounds_toArray, List.set_cons_zero, List.set_cons_succ]
        obtain ⟨wq7, hnw⟩ : ∃ n, n = wq6 := ⟨_, rfl⟩
        subst hnw
        have hb : Below wq7.heap.size wq7 wq7 := Below.refl _ _
        refine ⟨HS.later hb, ?_⟩
        replace HS := HS.later hb
        replace HB := below_next HB hb
        replace HZ2 := HZ2.later hb
        clear hb
        refine wpAnyH_all (rs := [3]) (by kernel_rfl) (by simp) (fun i hi => ?_)
        obtain rfl : i = 3 := by simpa using hi
        refine wpOp_doG 3 (by rfl) (by rfl) ?_
        go_wp2_with fail
        have HV := (own_one wq7 wq7.heap.size (Nat.le_refl _) (vN 3)).vsl
        have hb := below_box wq7 (.cells (encV (vN 3)).toArray 25)
        obtain ⟨q8, hq8⟩ : ∃ q8, wq7.heap.size = q8 := ⟨_, rfl⟩
        change VSl (wq7.alloc (.cells #[.int .i64 1, .int .i64 3, .string noB] 25)) _ _ at HV
        change Below _ wq7 (wq7.alloc (.cells #[.int .i64 1, .int .i64 3, .string noB] 25)) at hb
        generalize wq7.alloc (.cells #[.int .i64 1, .int .i64 3, .string noB] 25) = wq8 at HV hb ⊢
        simp only [hq8] at HV ⊢
        clear hq8
        refine ⟨HS.later hb, ?_⟩
        replace HS := HS.later hb
        replace HB := below_next HB hb
        replace HZ2 := HZ2.later hb
        clear hb
        refine wpAnyH_all (rs := [4]) (by kernel_rfl) (by simp) (fun i hi => ?_)
        obtain rfl : i = 4 := by simpa using hi
        refine wpOp_doG 4 (by rfl) (by rfl) ?_
        go_wp2_with fail
        refine (step_yes 9 (vN 5) (vN 1) nilS 1 (.slice (some ⟨q8, 0, none⟩) 1 1) [vN 3] wq8 (HT.out.later HB) HV (sz1 _ (Nat.zero_le _)) (Nat.zero_le _) k5o k3m).mono ?_
        rintro e wq9 ⟨vo, rfl, -, hb⟩
        rw [k3n]
        refine ⟨HS.later hb, ?_⟩
        replace HS := HS.later hb
        replace HB := below_next HB hb
        replace HZ2 := HZ2.later hb
        replace HV := HV.later hb
        clear hb
        clear HV
        refine takeH 5 26 (.tuple #[.agg (stC 9 (vN 5) nilS).toArray, vo, .bool true]) rfl rfl (by kernel_rfl) (by kernel_rfl) (by kernel_rfl) (fun c a w h => h) (.inl ⟨rfl, fun w _ => rfl⟩) HS ?_
        simp only [List.setIfInBounds_toArray, List.set_cons_zero, List.set_cons_succ]
        refine takeH 6 32 (.agg (stC 9 (vN 5) nilS).toArray) rfl rfl (by kernel_rfl) (by kernel_rfl) (by kernel_rfl) (fun c a w h => h) (.inl ⟨rfl, fun w _ => by go_simp⟩) HS ?_
        simp only [List.setIfInBounds_toArray, List.set_cons_zero, List.set_cons_succ]
        refine takeH 7 33 (vo) rfl rfl (by kernel_rfl) (by kernel_rfl) (by kernel_rfl) (fun c a w h => h) (.inl ⟨rfl, fun w _ => by go_simp⟩) HS ?_
        simp only [List.setIfInBounds_toArray, List.set_cons_zero, List.set_cons_succ]
        refine takeH 8 34 (.bool true) rfl rfl (by kernel_rfl) (by kernel_rfl) (by kernel_rfl) (fun c a w h => h) (.inl ⟨rfl, fun w _ => by go_simp⟩) HS ?_
        simp only [List.setIfInBounds_toArray, List.set_cons_zero, List.set_cons_succ]
        refine wpAnyH_all (rs := [9]) (by kernel_rfl) (by simp) (fun i hi => ?_)
        obtain rfl : i = 9 := by simpa using hi
        refine wpOp_doG 9 (by rfl) (by rfl) ?_
        refine wpo_storeB 28 (.tmp 2) (.tmp 32) z2 0 (stC 9 (vN 5) nilS) (stC 9 (vN 5) nilS) 28 infoSt (show 0 + 6 ≤ 6 by decide) (stC_one _ _ rfl) rfl rfl rfl HZ2 ?_
        intro wq10 BP ho
        replace BP : Blk wq10 z2 (stC 9 (vN 5) nilS) 28 := BP
        have HS2 : Blk wq10 z1 (encV (vN 1)) 25 := HS.oth ho HNe.out HNe.out
        have HB2 : Below w.heap.size w wq10 := below_oth HB ho HLe.out HLe.out HB.size
        refine ⟨HS2, ?_⟩
        clear ho HZ2 HS HB
        have HS := HS2
        have HB := HB2
        clear HS2 HB2
        refine wpAnyH_done (by kernel_rfl) ?_ _
        show K _ _
        simp only [Act.put, List.getElem_toArray, List.getElem_cons_succ, List.getElem_cons_zero]
        exact HTl4.out wq10 HS BP HB _ _ _ _ _ _ _ _ _ _ _ _ _ _ _ _ _ _ _ _ _ _ _ _ _ _ _ _ _ _ _ _ _ _ _ _ _ _ _ _ _ _ _ _ _ _ _ _ _ _ _ _ _ _ _ _ _ _ _ _ _ _ _ _ _ _ _ _ _ _
      · refine wpOp_doG 3 (by rfl) (by rfl) ?_
        go_wp2_with fail
        have HV := (own_one wq6 wq6.heap.size (Nat.le_refl _) (vN 3)).vsl
        have hb := below_box wq6 (.cells (encV (vN 3)).toArray 25)
        obtain ⟨q8, hq8⟩ : ∃ q8, wq6.heap.size = q8 := ⟨_, rfl⟩
        change VSl (wq6.alloc (.cells #[.int .i64 1, .int .i64 3, .string noB] 25)) _ _ at HV
        change Below _ wq6 (wq6.alloc (.cells #[.int .i64 1, .int .i64 3, .string noB] 25)) at hb
        generalize wq6.alloc (.cells #[.int .i64 1, .int .i64 3, .string noB] 25) = wq11 at HV hb ⊢
        simp only [hq8] at HV ⊢
        clear hq8
        refine ⟨HS.later hb, ?_⟩
        replace HS := HS.later hb
        replace HB := below_next HB hb
        replace HZ2 := HZ2.later hb
        clear hb
        refine wpAnyH_all (rs := [0]) (by kernel_rfl) (by simp) (fun i hi => ?_)
        obtain rfl : i = 0 := by simpa using hi
        refine wpOp_doG 0 (by rfl) (by rfl) ?_
        refine wp_load_mid 28 (.tmp 2) rfl z2 0 rfl (stC 9 (vN 5) nilS) _ (Blk.all HZ2) Tryd.underlying28 rfl infoSt ?_
        simp only [Act.put, List.setIfInBounds_toArray, List.set_cons_zero, List.set_cons_succ]
        obtain ⟨wq12, hnw⟩ : ∃ n, n = wq11 := ⟨_, rfl⟩
        subst hnw
        have hb : Below wq12.heap.size wq12 wq12 := Below.refl _ _
        refine ⟨HS.later hb, ?_⟩
        replace HS := HS.later hb
        replace HB := below_next HB hb
        replace HZ2 := HZ2.later hb
        replace HV := HV.later hb
        clear hb
        refine wpAnyH_all (rs := [4]) (by kernel_rfl) (by simp) (fun i hi => ?_)
        obtain rfl : i = 4 := by simpa using hi
        refine wpOp_doG 4 (by rfl) (by rfl) ?_
        go_wp2_with fail
        refine (step_yes 9 (vN 5) (vN 1) nilS 1 (.slice (some ⟨q8, 0, none⟩) 1 1) [vN 3] wq12 (HT.out.later HB) HV (sz1 _ (Nat.zero_le _)) (Nat.zero_le _) k5o k3m).mono ?_
        rintro e wq13 ⟨vo, rfl, -, hb⟩
        rw [k3n]
        refine ⟨HS.later hb, ?_⟩
        replace HS := HS.later hb
        replace HB := below_next HB hb
        replace HZ2 := HZ2.later hb
        replace HV := HV.later hb
        clear hb
        clear HV
        refine takeH 5 26 (.tuple #[.agg (stC 9 (vN 5) nilS).toArray, vo, .bool true]) rfl rfl (by kernel_rfl) (by kernel_rfl) (by kernel_rfl) (fun c a w h => h) (.inl ⟨rfl, fun w _ => rfl⟩) HS ?_
        simp only [List.setIfInBounds_toArray, List.set_cons_zero, List.set_cons_succ]
        refine takeH 6 32 (.agg (stC 9 (vN 5) nilS).toArray) rfl rfl (by kernel_rfl) (by kernel_rfl) (by kernel_rfl) (fun c a w h => h) (.inl ⟨rfl, fun w _ => by go_simp⟩) HS ?_
        simp only [List.setIfInBounds_toArray, List.set_cons_zero, List.set_cons_succ]
        refine takeH 7 33 (vo) rfl rfl (by kernel_rfl) (by kernel_rfl) (by kernel_rfl) (fun c a w h => h) (.inl ⟨rfl, fun w _ => by go_simp⟩) HS ?_
        simp only [List.setIfInBounds_toArray, List.set_cons_zero, List.set_cons_succ]
        refine takeH 8 34 (.bool true) rfl rfl (by kernel_rfl) (by kernel_rfl) (by kernel_rfl) (fun c a w h => h) (.inl ⟨rfl, fun w _ => by go_simp⟩) HS ?_
        simp only [List.setIfInBounds_toArray, List.set_cons_zero, List.set_cons_succ]
        refine wpAnyH_all (rs := [9]) (by kernel_rfl) (by simp) (fun i hi => ?_)
        obtain rfl : i = 9 := by simpa using hi
        refine wpOp_doG 9 (by rfl) (by rfl) ?_
        refine wpo_storeB 28 (.tmp 2) (.tmp 32) z2 0 (stC 9 (vN 5) nilS) (stC 9 (vN 5) nilS) 28 infoSt (show 0 + 6 ≤ 6 by decide) (stC_one _ _ rfl) rfl rfl rfl HZ2 ?_
        intro wq14 BP ho
        replace BP : Blk wq14 z2 (stC 9 (vN 5) nilS) 28 := BP
        have HS2 : Blk wq14 z1 (encV (vN 1)) 25 := HS.oth ho HNe.out HNe.out
        have HB2 : Below w.heap.size w wq14 := below_oth HB ho HLe.out HLe.out HB.size
        refine ⟨HS2, ?_⟩
        clear ho HZ2 HS HB
        have HS := HS2
        have HB := HB2
        clear HS2 HB2
        refine wpAnyH_done (by kernel_rfl) ?_ _
        show K _ _
        simp only [Act.put, List.getElem_toArray, List.getElem_cons_succ, List.getElem_cons_zero]
        exact HTl4.out wq14 HS BP HB _ _ _ _ _ _ _ _ _ _ _ _ _ _ _ _ _ _ _ _ _ _ _ _ _ _ _ _ _ _ _ _ _ _ _ _ _ _ _ _ _ _ _ _ _ _ _ _ _ _ _ _ _ _ _ _ _ _ _ _ _ _ _ _ _ _ _ _ _ _
  have HTl3 : Hid (∀ w', Blk w' z1 (encV (vN 1)) 25 → Blk w' z2 (stC 9 (vN 5) nilS) 28 → Below w.heap.size w w' → ∀ u0 u3 u4 u5 u6 u7 u8 u9 u10 u11 u12 u13 u14 u15 u16 u17 u18 u19 u20 u21 u22 u23 u24 u25 u26 u27 u28 u29 u30 u31 u32 u33 u34 u35 u36 u37 u38 u39 u40 u41 u42 u43 u44 u45 u46 u47 u48 u49 u50 u51 u52 u53 u54 u55 u56 u57 u58 u59 u60 u61 u62 u63 u64 u65 u66 u67 u68 u69 u70 u71, K ⟨#[u0, .pointer (some ⟨z1, 0, none⟩), .pointer (some ⟨z2, 0, none⟩), u3, u4, u5, u6, u7, u8, u9, u10, u11, u12, u13, u14, u15, u16, u17, u18, u19, u20, u21, u22, u23, u24, u25, u26, u27, u28, u29, u30, u31, u32, u33, u34, u35, u36, u37, u38, u39, u40, u41, u42, u43, u44, u45, u46, u47, u48, u49, u50, u51, u52, u53, u54, u55, u56, u57, u58, u59, u60, u61, u62, u63, u64, u65, u66, u67, u68, u69, u70, u71], []⟩ w') := tail3
  clear tail3 hKK
  refine wp_region_held (S := fun wx => Blk wx z1 (encV (vN 1)) 25) mixed ?_
  replace HS : Blk { w3 with drawn := w3.drawn + 1 } z1 (encV (vN 1)) 25 := HS
  replace HZ2 : Blk { w3 with drawn := w3.drawn + 1 } z2 (stC 9 noV nilS) 28 := HZ2
  replace HB : Below w.heap.size w { w3 with drawn := w3.drawn + 1 } := ⟨HB.os, HB.tape, HB.output, HB.size, HB.block⟩
  generalize ({ w3 with drawn := w3.drawn + 1 } : World) = n0 at HZ2 HS HB ⊢
  refine takeH 1 19 (.agg #[.int .i64 1, .int .i64 1, .string noB]) rfl rfl (by kernel_rfl) (by kernel_rfl) (by kernel_rfl) (fun c a w h => h) (yieldsIf_load_mid rfl 25 (.tmp 1) rfl z1 0 rfl (encV (vN 1)) _ (fun wx hx => Blk.all hx) Tryd.underlying25 rfl infoVv) HS ?_
  simp only [List.setIfInBounds_toArray, List.set_cons_zero, List.set_cons_succ]
  refine wpAnyH_all (rs := [0, 2]) (by kernel_rfl) (by simp) (fun i hi => ?_)
  simp only [List.mem_cons, List.not_mem_nil, or_false] at hi
  rcases hi with rfl | rfl
  · refine wpOp_doG 0 (by rfl) (by rfl) ?_
    refine wp_load_mid 28 (.tmp 2) rfl z2 0 rfl (stC 9 (noV) nilS) _ (Blk.all HZ2) Tryd.underlying28 rfl infoSt ?_
    simp only [Act.put, List.setIfInBounds_toArray, List.set_cons_zero, List.set_cons_succ]
    obtain ⟨wq1, hnw⟩ : ∃ n, n = n0 := ⟨_, rfl⟩
    subst hnw
    have hb : Below wq1.heap.size wq1 wq1 := Below.refl _ _
    refine ⟨HS.later hb, ?_⟩
    replace HS := HS.later hb
    replace HB := below_next HB hb
    replace HZ2 := HZ2.later hb
    clear hb
    refine wpAnyH_all (rs := [2]) (by kernel_rfl) (by simp) (fun i hi => ?_)
    obtain rfl : i = 2 := by simpa using hi
    refine wpOp_doG 2 (by rfl) (by rfl) ?_
    go_wp2_with fail
    refine (num_any 5 wq1).mono ?_
    rintro e wq2 ⟨rfl, hb⟩
    refine ⟨HS.later hb, ?_⟩
    replace HS := HS.later hb
    replace HB := below_next HB hb
    replace HZ2 := HZ2.later hb
    clear hb
    refine wpAnyH_all (rs := [3]) (by kernel_rfl) (by simp) (fun i hi => ?_)
    obtain rfl : i = 3 := by simpa using hi
    refine wpOp_doG 3 (by rfl) (by rfl) ?_
    go_wp2_with fail
    have HV := (own_one wq2 wq2.heap.size (Nat.le_refl _) (vN 5)).vsl
    have hb := below_box wq2 (.cells (encV (vN 5)).toArray 25)
    obtain ⟨q8, hq8⟩ : ∃ q8, wq2.heap.size = q8 := ⟨_, rfl⟩
    change VSl (wq2.alloc (.cells #[.int .i64 1, .int .i64 5, .string noB] 25)) _ _ at HV
    change Below _ wq2 (wq2.alloc (.cells #[.int .i64 1, .int .i64 5, .string noB] 25)) at hb
    generalize wq2.alloc (.cells #[.int .i64 1, .int .i64 5, .string noB] 25) = wq3 at HV hb ⊢
    simp only [hq8] at HV ⊢
    clear hq8
    refine ⟨HS.later hb, ?_⟩
    replace HS := HS.later hb
    replace HB := below_next HB hb
    replace HZ2 := HZ2.later hb
    clear hb
    refine wpAnyH_all (rs := [4]) (by kernel_rfl) (by simp) (fun i hi => ?_)
    obtain rfl : i = 4 := by simpa using hi
    refine wpOp_doG 4 (by rfl) (by rfl) ?_
    go_wp2_with fail
    refine (step_yes 9 (noV) (vN 1) nilS 1 (.slice (some ⟨q8, 0, none⟩) 1 1) [vN 5] wq3 (HT.out.later HB) HV (sz1 _ (Nat.zero_le _)) (Nat.zero_le _) k5o k5m).mono ?_
    rintro e wq4 ⟨vo, rfl, -, hb⟩
    rw [k5n]
    refine ⟨HS.later hb, ?_⟩
    replace HS := HS.later hb
    replace HB := below_next HB hb
    replace HZ2 := HZ2.later hb
    replace HV := HV.later hb
    clear hb
    clear HV
    refine takeH 5 17 (.tuple #[.agg (stC 9 (vN 5) nilS).toArray, vo, .bool true]) rfl rfl (by kernel_rfl) (by kernel_rfl) (by kernel_rfl) (fun c a w h => h) (.inl ⟨rfl, fun w _ => rfl⟩) HS ?_
    simp only [List.setIfInBounds_toArray, List.set_cons_zero, List.set_cons_succ]
    refine takeH 6 23 (.agg (stC 9 (vN 5) nilS).toArray) rfl rfl (by kernel_rfl) (by kernel_rfl) (by kernel_rfl) (fun c a w h => h) (.inl ⟨rfl, fun w _ => by go_simp⟩) HS ?_
    simp only [List.setIfInBounds_toArray, List.set_cons_zero, List.set_cons_succ]
    refine takeH 7 24 (vo) rfl rfl (by kernel_rfl) (by kernel_rfl) (by kernel_rfl) (fun c a w h => h) (.inl ⟨rfl, fun w _ => by go_simp⟩) HS ?_
    simp only [List.setIfInBounds_toArray, List.set_cons_zero, List.set_cons_succ]
    refine takeH 8 25 (.bool true) rfl rfl (by kernel_rfl) (by kernel_rfl) (by kernel_rfl) (fun c a w h => h) (.inl ⟨rfl, fun w _ => by go_simp⟩) HS ?_
    simp only [List.setIfInBounds_toArray, List.set_cons_zero, List.set_cons_succ]
    refine wpAnyH_all (rs := [9]) (by kernel_rfl) (by simp) (fun i hi => ?_)
    obtain rfl : i = 9 := by simpa using hi
    refine wpOp_doG 9 (by rfl) (by rfl) ?_
    refine wpo_storeB 28 (.tmp 2) (.tmp 23) z2 0 (stC 9 (vN 5) nilS) (stC 9 (noV) nilS) 28 infoSt (show 0 + 6 ≤ 6 by decide) (stC_one _ _ rfl) rfl rfl rfl HZ2 ?_
    intro wq5 BP ho
    replace BP : Blk wq5 z2 (stC 9 (vN 5) nilS) 28 := BP
    have HS2 : Blk wq5 z1 (encV (vN 1)) 25 := HS.oth ho HNe.out HNe.out
    have HB2 : Below w.heap.size w wq5 := below_oth HB ho HLe.out HLe.out HB.size
    refine ⟨HS2, ?_⟩
    clear ho HZ2 HS HB
    have HS := HS2
    have HB := HB2
    clear HS2 HB2
    refine wpAnyH_done (by kernel_rfl) ?_ _
    show K _ _
    simp only [Act.put, List.getElem_toArray, List.getElem_cons_succ, List.getElem_cons_zero]
    exact HTl3.out wq5 HS BP HB _ _ _ _ _ _ _ _ _ _ _ _ _ _ _ _ _ _ _ _ _ _ _ _ _ _ _ _ _ _ _ _ _ _ _ _ _ _ _ _ _ _ _ _ _ _ _ _ _ _ _ _ _ _ _ _ _ _ _ _ _ _ _ _ _ _ _ _ _ _
  · refine wpOp_doG 2 (by rfl) (by rfl) ?_
    go_wp2_with fail
    refine (num_any 5 n0).mono ?_
    rintro e wq6 ⟨rfl, hb⟩
    refine ⟨HS.later hb, ?_⟩
    replace HS := HS.later hb
    replace HB := below_next HB hb
    replace HZ2 := HZ2.later hb
    clear hb
    refine wpAnyH_all (rs := [0, 3]) (by kernel_rfl) (by simp) (fun i hi => ?_)
    simp only [List.mem_cons, List.not_mem_nil, or_false] at hi
    rcases hi with rfl | rfl
    · refine wpOp_doG 0 (by rfl) (by rfl) ?_
      refine wp_load_mid 28 (.tmp 2) rfl z2 0 rfl (stC 9 (noV) nilS) _ (Blk.all HZ2) Tryd.underlying28 rfl infoSt ?_
      simp only [Act.put, List.setIfInBounds_toArray, List.set_cons_zero, List.set_cons_succ]
      obtain ⟨wq7, hnw⟩ : ∃ n, n = wq6 := ⟨_, rfl⟩
      subst hnw
      have hb : Below wq7.heap.size wq7 wq7 := Below.refl _ _
      refine ⟨HS.later hb, ?_⟩
      replace HS := HS.later hb
      replace HB := below_next HB hb
      replace HZ2 := HZ2.later hb
      clear hb
      refine wpAnyH_all (rs := [3]) (by kernel_rfl) (by simp) (fun i hi => ?_)
      obtain rfl : i = 3 := by simpa using hi
      refine wpOp_doG 3 (by rfl) (by rfl) ?_
      go_wp2_with fail
      have HV := (own_one wq7 wq7.heap.size (Nat.le_refl _) (vN 5)).vsl
      have hb := below_box wq7 (.cells (encV (vN 5)).toArray 25)
      obtain ⟨q8, hq8⟩ : ∃ q8, wq7.heap.size = q8 := ⟨_, rfl⟩
      change VSl (wq7.alloc (.cells #[.int .i64 1, .int .i64 5, .string noB] 25)) _ _ at HV
      change Below _ wq7 (wq7.alloc (.cells #[.int .i64 1, .int .i64 5, .string noB] 25)) at hb
      generalize wq7.alloc (.cells #[.int .i64 1, .int .i64 5, .string noB] 25) = wq8 at HV hb ⊢
      simp only [hq8] at HV ⊢
      clear hq8
      refine ⟨HS.later hb, ?_⟩
      replace HS := HS.later hb
      replace HB := below_next HB hb
      replace HZ2 := HZ2.later hb
      clear hb
      refine wpAnyH_all (rs := [4]) (by kernel_rfl) (by simp) (fun i hi => ?_)
      obtain rfl : i = 4 := by simpa using hi
      refine wpOp_doG 4 (by rfl) (by rfl) ?_
      go_wp2_with fail
      refine (step_yes 9 (noV) (vN 1) nilS 1 (.slice (some ⟨q8, 0, none⟩) 1 1) [vN 5] wq8 (HT.out.later HB) HV (sz1 _ (Nat.zero_le _)) (Nat.zero_le _) k5o k5m).mono ?_
      rintro e wq9 ⟨vo, rfl, -, hb⟩
      rw [k5n]
      refine ⟨HS.later hb, ?_⟩
      replace HS := HS.later hb
      replace HB := below_next HB hb
      replace HZ2 := HZ2.later hb
      replace HV := HV.later hb
      clear hb
      clear HV
      refine takeH 5 17 (.tuple #[.agg (stC 9 (vN 5) nilS).toArray, vo, .bool true]) rfl rfl (by kernel_rfl) (by kernel_rfl) (by kernel_rfl) (fun c a w h => h) (.inl ⟨rfl, fun w _ => rfl⟩) HS ?_
      simp only [List.setIfInBounds_toArray, List.set_cons_zero, List.set_cons_succ]
      refine takeH 6 23 (.agg (stC 9 (vN 5) nilS).toArray) rfl rfl (by kernel_rfl) (by kernel_rfl) (by kernel_rfl) (fun c a w h => h) (.inl ⟨rfl, fun w _ => by go_simp⟩) HS ?_
      simp only [List.setIfInBounds_toArray, List.set_cons_zero, List.set_cons_succ]
      refine takeH 7 24 (vo) rfl rfl (by kernel_rfl) (by kernel_rfl) (by kernel_rfl) (fun c a w h => h) (.inl ⟨rfl, fun w _ => by go_simp⟩) HS ?_
      simp only [List.setIfInBounds_toArray, List.set_cons_zero, List.set_cons_succ]
      refine takeH 8 25 (.bool true) rfl rfl (by kernel_rfl) (by kernel_rfl) (by kernel_rfl) (fun c a w h => h) (.inl ⟨rfl, fun w _ => by go_simp⟩) HS ?_
      simp only [List.setIfInBounds_toArray, List.set_cons_zero, List.set_cons_succ]
      refine wpAnyH_all (rs := [9]) (by kernel_rfl) (by simp) (fun i hi => ?_)
      obtain rfl : i = 9 := by simpa using hi
      refine wpOp_doG 9 (by rfl) (by rfl) ?_
      refine wpo_storeB 28 (.tmp 2) (.tmp 23) z2 0 (stC 9 (vN 5) nilS) (stC 9 (noV) nilS) 28 infoSt (show 0 + 6 ≤ 6 by decide) (stC_one _ _ rfl) rfl rfl rfl HZ2 ?_
      intro wq10 BP ho
      replace BP : Blk wq10 z2 (stC 9 (vN 5) nilS) 28 := BP
      have HS2 : Blk wq10 z1 (encV (vN 1)) 25 := HS.oth ho HNe.out HNe.out
      have HB2 : Below w.heap.size w wq10 := below_oth HB ho HLe.out HLe.out HB.size
      refine ⟨HS2, ?_⟩
      clear ho HZ2 HS HB
      have HS := HS2
      have HB := HB2
      clear HS2 HB2
      refine wpAnyH_done (by kernel_rfl) ?_ _
      show K _ _
      simp only [Act.put, List.getElem_toArray, List.getElem_cons_succ, List.getElem_cons_zero]
      exact HTl3.out wq10 HS BP HB _ _ _ _ _ _ _ _ _ _ _ _ _ _ _ _ _ _ _ _ _ _ _ _ _ _ _ _ _ _ _ _ _ _ _ _ _ _ _ _ _ _ _ _ _ _ _ _ _ _ _ _ _ _ _ _ _ _ _ _ _ _ _ _ _ _ _ _ _ _
    · refine wpOp_doG 3 (by rfl) (by rfl) ?_
      go_wp2_with fail
      have HV := (own_one wq6 wq6.heap.size (Nat.le_refl _) (vN 5)).vsl
      have hb := below_box wq6 (.cells (encV (vN 5)).toArray 25)
      obtain ⟨q8, hq8⟩ : ∃ q8, wq6.heap.size = q8 := ⟨_, rfl⟩
      change VSl (wq6.alloc (.cells #[.int .i64 1, .int .i64 5, .string noB] 25)) _ _ at HV
      change Below _ wq6 (wq6.alloc (.cells #[.int .i64 1, .int .i64 5, .string noB] 25)) at hb
      generalize wq6.alloc (.cells #[.int .i64 1, .int .i64 5, .string noB] 25) = wq11 at HV hb ⊢
      simp only [hq8] at HV ⊢
      clear hq8
      refine ⟨HS.later hb, ?_⟩
      replace HS := HS.later hb
      replace HB := below_next HB hb
      replace HZ2 := HZ2.later hb
      clear hb
      refine wpAnyH_all (rs := [0]) (by kernel_rfl) (by simp) (fun i hi => ?_)
      obtain rfl : i = 0 := by simpa using hi
      refine wpOp_doG 0 (by rfl) (by rfl) ?_
      refine wp_load_mid 28 (.tmp 2) rfl z2 0 rfl (stC 9 (noV) nilS) _ (Blk.all HZ2) Tryd.underlying28 rfl infoSt ?_
      simp only [Act.put, List.setIfInBounds_toArray, List.set_cons_zero, List.set_cons_succ]
      obtain ⟨wq12, hnw⟩ : ∃ n, n = wq11 := ⟨_, rfl⟩
      subst hnw
      have hb : Below wq12.heap.size wq12 wq12 := Below.refl _ _
      refine ⟨HS.later hb, ?_⟩
      replace HS := HS.later hb
      replace HB := below_next HB hb
      replace HZ2 := HZ2.later hb
      replace HV := HV.later hb
      clear hb
      refine wpAnyH_all (rs := [4]) (by kernel_rfl) (by simp) (fun i hi => ?_)
      obtain rfl : i = 4 := by simpa using hi
      refine wpOp_doG 4 (by rfl) (by rfl) ?_
      go_wp2_with fail
      refine (step_yes 9 (noV) (vN 1) nilS 1 (.slice (some ⟨q8, 0, none⟩) 1 1) [vN 5] wq12 (HT.out.later HB) HV (sz1 _ (Nat.zero_le _)) (Nat.zero_le _) k5o k5m).mono ?_
      rintro e wq13 ⟨vo, rfl, -, hb⟩
      rw [k5n]
      refine ⟨HS.later hb, ?_⟩
      replace HS := HS.later hb
      replace HB := below_next HB hb
      replace HZ2 := HZ2.later hb
      replace HV := HV.later hb
      clear hb
      clear HV
      refine takeH 5 17 (.tuple #[.agg (stC 9 (vN 5) nilS).toArray, vo, .bool true]) rfl rfl (by kernel_rfl) (by kernel_rfl) (by kernel_rfl) (fun c a w h => h) (.inl ⟨rfl, fun w _ => rfl⟩) HS ?_
      simp only [List.setIfInBounds_toArray, List.set_cons_zero, List.set_cons_succ]
      refine takeH 6 23 (.agg (stC 9 (vN 5) nilS).toArray) rfl rfl (by kernel_rfl) (by kernel_rfl) (by kernel_rfl) (fun c a w h => h) (.inl ⟨rfl, fun w _ => by go_simp⟩) HS ?_
      simp only [List.setIfInBounds_toArray, List.set_cons_zero, List.set_cons_succ]
      refine takeH 7 24 (vo) rfl rfl (by kernel_rfl) (by kernel_rfl) (by kernel_rfl) (fun c a w h => h) (.inl ⟨rfl, fun w _ => by go_simp⟩) HS ?_
      simp only [List.setIfInBounds_toArray, List.set_cons_zero, List.set_cons_succ]
      refine takeH 8 25 (.bool true) rfl rfl (by kernel_rfl) (by kernel_rfl) (by kernel_rfl) (fun c a w h => h) (.inl ⟨rfl, fun w _ => by go_simp⟩) HS ?_
      simp only [List.setIfInBounds_toArray, List.set_cons_zero, List.set_cons_succ]
      refine wpAnyH_all (rs := [9]) (by kernel_rfl) (by simp) (fun i hi => ?_)
      obtain rfl : i = 9 := by simpa using hi
      refine wpOp_doG 9 (by rfl) (by rfl) ?_
      refine wpo_storeB 28 (.tmp 2) (.tmp 23) z2 0 (stC 9 (vN 5) nilS) (stC 9 (noV) nilS) 28 infoSt (show 0 + 6 ≤ 6 by decide) (stC_one _ _ rfl) rfl rfl rfl HZ2 ?_
      intro wq14 BP ho
      replace BP : Blk wq14 z2 (stC 9 (vN 5) nilS) 28 := BP
      have HS2 : Blk wq14 z1 (encV (vN 1)) 25 := HS.oth ho HNe.out HNe.out
      have HB2 : Below w.heap.size w wq14 := below_oth HB ho HLe.out HLe.out HB.size
      refine ⟨HS2, ?_⟩
      clear ho HZ2 HS HB
      have HS := HS2
      have HB := HB2
      clear HS2 HB2
      refine wpAnyH_done (by kernel_rfl) ?_ _
      show K _ _
      simp only [Act.put, List.getElem_toArray, List.getElem_cons_succ, List.getElem_cons_zero]
      exact HTl3.out wq14 HS BP HB _ _ _ _ _ _ _ _ _ _ _ _ _ _ _ _ _ _ _ _ _ _ _ _ _ _ _ _ _ _ _ _ _ _ _ _ _ _ _ _ _ _ _ _ _ _ _ _ _ _ _ _ _ _ _ _ _ _ _ _ _ _ _ _ _ _ _ _ _ _
end Go.Proofs.YtocdgddahbpkpaaDoor
