/- Texts as lists of bytes; rows of texts in memory, and rows that a call owns; an append to one. No conditions but sizes. -/
import Derived.Test.YtmmlafhifnmkpaaDoorRows
import Derived.Test.YtmmlafhifnmkpaaDoorLA
import Derived.WalkKit
import Derived.WalkSpells
import Derived.WalkLawsBesides
import Derived.Handy
import Derived.PlainAid
import Derived.Deep.AppendLies
import Derived.Laws.AppendOwnNone
import Derived.Deep.MidRow
import Derived.OwnWalk
namespace Go.Proofs.YtmmlafhifnmkpaaDoor
open Go.RowKit Go.PlainAid
set_option linter.unusedVariables false

/-- one call behind another -/
theorem below_next {w a b : World} (h : Below w.heap.size w a) (k : Below a.heap.size a b) : Below w.heap.size w b := h.trans (k.mono h.size)
/-- a new block -/
theorem below_more {w a : World} (h : Below w.heap.size w a) (o : Obj) : Below w.heap.size w (a.alloc o) := h.alloc h.size o
theorem ret_b {a b : Bool} (h : a = b) : Ending.returned (.bool a) = .returned (.bool b) := by rw [h]

/-- a text's bytes -/
def bs (l : List UInt8) : ByteArray := ⟨l.toArray⟩
/-- a text as a list -/
abbrev tx (s : ByteArray) : List UInt8 := s.data.toList
theorem bs_tx (s : ByteArray) : bs (tx s) = s := Lib.mk_data s
theorem tx_bs (l : List UInt8) : tx (bs l) = l := rfl
theorem tx_len (s : ByteArray) : (tx s).length = s.size := (Lib.size_eq s).symm
theorem bs_size (l : List UInt8) : (bs l).size = l.length := rfl
theorem bs_toList (l : List UInt8) : (bs l).toList = l := by rw [ByteArray.toList_eq]; rfl
theorem tx_toList (s : ByteArray) : s.toList = tx s := ByteArray.toList_eq s
theorem bs_inj {a b : List UInt8} (h : bs a = bs b) : a = b := congrArg tx h
theorem bs_nil : bs [] = ⟨#[]⟩ := rfl
theorem tx_inj {a b : ByteArray} (h : tx a = tx b) : a = b := by rw [← bs_tx a, ← bs_tx b, h]
theorem extract_tx (s : ByteArray) (a b : Nat) : s.extract a b = bs (((tx s).drop a).take (b - a)) := Lib.extract_eq s a b
theorem bt_tx (s : ByteArray) (k : Nat) (b : UInt8) (h : (tx s)[k]? = some b) : bt s k = (b.toNat : Int) := by
  obtain ⟨hk, e⟩ := List.getElem?_eq_some_iff.1 h
  have hk' : k < s.size := by rw [← tx_len]; exact hk
  unfold bt
  rw [dif_pos hk', ← e]
  rfl
theorem byte_at (s : ByteArray) (k : Nat) (h : k < s.size) : ∃ b, (tx s)[k]? = some b ∧ bt s k = (b.toNat : Int) ∧ (tx s).take (k + 1) = (tx s).take k ++ [b] ∧ (tx s).drop k = b :: (tx s).drop (k + 1) := by
  have h' : k < (tx s).length := by rw [tx_len]; exact h
  refine ⟨(tx s)[k], List.getElem?_eq_getElem h', bt_tx s k _ (List.getElem?_eq_getElem h'), ?_, ?_⟩
  · rw [List.take_add_one, List.getElem?_eq_getElem h']; rfl
  · exact List.drop_eq_getElem_cons h'
theorem byte_eq (b c : UInt8) : ((b.toNat : Int) = (c.toNat : Int)) ↔ b = c :=
  ⟨fun h => UInt8.toNat_inj.1 (by omega), fun h => by rw [h]⟩

/-- the i-th text of a row -/
def nt (xs : List (List UInt8)) (i : Nat) : List UInt8 := xs.getD i []
theorem nt_eq (xs : List (List UInt8)) (i : Nat) (h : i < xs.length) : nt xs i = xs[i] := by unfold nt; rw [List.getD_eq_getElem?_getD, List.getElem?_eq_getElem h]; rfl
theorem nt_some (xs : List (List UInt8)) (i : Nat) (h : i < xs.length) : xs[i]? = some (nt xs i) := by rw [nt_eq xs i h, List.getElem?_eq_getElem h]
/-- a slice that holds these texts -/
def SSl (w : World) (v : Value) (xs : List (List UInt8)) : Prop :=
  ∃ (a : Option Addr) (c : Nat), v = .slice a xs.length c ∧ xs.length ≤ c ∧ c ≤ 9223372036854775807 ∧ ((xs = [] ∧ (a = none → c = 0)) ∨ ∃ b o, a = some ⟨b, o, none⟩ ∧ b < w.heap.size ∧ ∀ i, i < xs.length → w.cell? ⟨b, o + i, none⟩ = some (.string (bs (nt xs i))))
theorem SSl.later {w w' : World} {v : Value} {xs : List (List UInt8)} (h : SSl w v xs) (hb : Below w.heap.size w w') : SSl w' v xs := by
  obtain ⟨a, c, h1, h2, h3, h4⟩ := h
  refine ⟨a, c, h1, h2, h3, h4.imp id ?_⟩
  rintro ⟨b, o, e, hl, hc⟩
  exact ⟨b, o, e, Nat.lt_of_lt_of_le hl hb.size, fun i hi => (hb.cell (p := ⟨b, o + i, none⟩) hl).trans (hc i hi)⟩
theorem SSl.form {w : World} {v : Value} {xs : List (List UInt8)} (h : SSl w v xs) : ∃ a c, v = .slice a xs.length c ∧ xs.length ≤ c ∧ c ≤ 9223372036854775807 ∧ (a = none → xs = [] ∧ c = 0) := by
  obtain ⟨a, c, hv, h1, h2, h3⟩ := h
  refine ⟨a, c, hv, h1, h2, fun ha => ?_⟩
  rcases h3 with ⟨h3, h4⟩ | ⟨b, o, h3, _⟩
  · exact ⟨h3, h4 ha⟩
  · rw [ha] at h3; cases h3
theorem SSl.block {w : World} {a : Option Addr} {n c : Nat} {xs : List (List UInt8)} (h : SSl w (.slice a n c) xs) (hl : 0 < xs.length) : ∃ b o, a = some ⟨b, o, none⟩ ∧ b < w.heap.size := by
  obtain ⟨a', c', hv, _, _, h3⟩ := h
  injection hv with ha _ _
  rcases h3 with ⟨h3, _⟩ | ⟨b, o, h3, hb, _⟩
  · rw [h3] at hl; cases hl
  · exact ⟨b, o, ha.trans h3, hb⟩
theorem SSl.cell {w : World} {b o n c : Nat} {xs : List (List UInt8)} (h : SSl w (.slice (some ⟨b, o, none⟩) n c) xs) {i : Nat} (hl : i < xs.length) : w.cell? ⟨b, o + i, none⟩ = some (.string (bs (nt xs i))) := by
  obtain ⟨a', c', hv, _, _, h3⟩ := h
  injection hv with ha _ _
  rcases h3 with ⟨h3, _⟩ | ⟨b', o', h3, _, hat⟩
  · rw [h3] at hl; cases hl
  · rw [h3] at ha
    injection ha with ha
    injection ha with h1 h2 _
    subst h1 h2
    exact hat i hl

/-- a row's cells -/
def cellsS (xs : List (List UInt8)) : List Value := xs.map (fun l => .string (bs l))
theorem cellsS_len (xs : List (List UInt8)) : (cellsS xs).length = xs.length := by simp [cellsS]
theorem cellsS_app (xs ys : List (List UInt8)) : cellsS (xs ++ ys) = cellsS xs ++ cellsS ys := by simp [cellsS]
theorem cellsS_one (xs : List (List UInt8)) : ∀ u ∈ cellsS xs, u.oneCell' = true := by
  intro u hu
  simp only [cellsS, List.mem_map] at hu
  obtain ⟨l, _, rfl⟩ := hu
  rfl
theorem cellsS_at (xs : List (List UInt8)) (i : Nat) (h : i < xs.length) : (cellsS xs)[i]? = some (.string (bs (nt xs i))) := by
  unfold cellsS; rw [List.getElem?_map, nt_some xs i h]; rfl
/-- a row of texts that the call owns, from block B on -/
def OwnS (w : World) (B : Nat) (v : Value) (xs : List (List UInt8)) : Prop := w.ownsRow B 9 1 v xs.length (cellsS xs)
theorem OwnS.nil (w : World) (B : Nat) : OwnS w B (.slice none 0 0) [] := World.ownsRow_nil _ _ _ _
theorem OwnS.later {w w' : World} {B : Nat} {v : Value} {xs : List (List UInt8)} (h : OwnS w B v xs) (hb : Below w.heap.size w w') : OwnS w' B v xs :=
  World.ownsRow.kept h (row := none) ⟨hb.os, hb.tape, hb.output, hb.size, fun k hk _ => hb.block k hk⟩ (by cases v.ownBlock <;> simp)
theorem OwnS.ssl {w : World} {B : Nat} {v : Value} {xs : List (List UInt8)} (h : OwnS w B v xs) : SSl w v xs := by
  have h' := h
  obtain ⟨h1, h2⟩ := h
  rcases h2 with ⟨rfl, h0⟩ | ⟨g, cap, cur, rfl, hb, hg, hn, hc, hs, ht⟩
  · have e : xs = [] := List.eq_nil_of_length_eq_zero h0
    subst e
    exact ⟨none, 0, rfl, by simp, by simp, .inl ⟨rfl, fun _ => rfl⟩⟩
  · unfold maxLen at hc
    refine ⟨_, cap, rfl, hn, by omega, .inr ⟨g, 0, rfl, (World.ownsRow.lt h' g rfl).2, fun i hi => ?_⟩⟩
    have q := World.ownsRow.cells h' (g := g) rfl _ _ (cellsS_at xs i hi)
    rw [Addr.add_mid] at q
    exact q
theorem OwnS.lt {w : World} {B : Nat} {v : Value} {xs : List (List UInt8)} (h : OwnS w B v xs) : ∀ g, v.ownBlock = some g → B ≤ g ∧ g < w.heap.size := World.ownsRow.lt h
theorem OwnS.form {w : World} {B : Nat} {v : Value} {xs : List (List UInt8)} (h : OwnS w B v xs) : ∃ a c, v = .slice a xs.length c := by
  obtain ⟨a, c, hv, _⟩ := h.ssl.form; exact ⟨a, c, hv⟩
theorem below_own {w w' : World} {B : Nat} {v : Value} {xs : List (List UInt8)} (h : OwnS w B v xs) (hg : w.grownBy w' v.ownBlock) {w0 : World} (h0 : Below B w0 w) (hB : B ≤ w.heap.size) : Below B w0 w' :=
  Below.grown h0 hg hB (fun k hk => (h.lt k hk).1)
theorem infoS : (Tryd.prog.info? 9).map (fun i => (i.zero, i.size, i.bytes)) = some (some (.string ⟨#[]⟩), 1, 16) := by kernel_rfl

/-- append of one text, laid in a new block, to a row that the call owns -/
theorem wpList_appendS {ops : Array Oper} {rest : List Oper} {o : Oper} {a : Act} {w : World} {Q : Exit → Act → World → Prop} (hgd : o.guard = none) (s x : Operand)
    (ho : o.op = .call { callee := .builtin .append, args := #[s, x], argTypes := #[23, 23] }) (B : Nat) (v : Value) (xs : List (List UInt8)) (hs : a.eval s = v) (hown : OwnS w B v xs)
    (ad : Addr) (c : Nat) (y : List UInt8) (hx : a.eval x = .slice (some ad) 1 c) (hu : w.cell? ad = some (.string (bs y))) (hlen : xs.length + 1 ≤ 1000000) (hbase : B ≤ w.heap.size)
    (h : ∀ v' w', OwnS w' B v' (xs ++ [y]) → w.grownBy w' v.ownBlock → wpList Tryd.prog ops Q rest (a.put o.dst v') w') : wpList Tryd.prog ops Q (o :: rest) a w := by
  obtain ⟨i0, hi, hz0, hz1, hz2⟩ := info_parts infoS
  unfold OwnS at hown h
  refine wpList_append_own_at _ hgd s x 23 ho B 9 i0 (.string ⟨#[]⟩) 1 16 Tryd.underlying23 hi hz0 hz1 hz2 rfl (by decide) v xs.length (cellsS xs) hs hown ad 1 c (cellsS [y]) hx rfl ?_ (cellsS_one _) (by unfold maxLen; omega) (by omega) hbase ?_
  · intro j u hj
    cases j with
    | zero =>
      simp only [cellsS, List.map_cons, List.map_nil, List.getElem?_cons_zero, Option.some.injEq] at hj
      rw [← hj]
      have e : ad.add 0 = ad := by obtain ⟨b, o, m⟩ := ad; cases m <;> rfl
      rw [e]; exact hu
    | succ j => simp [cellsS] at hj
  · intro v' w' hown' hgrow _ hat
    refine h v' w' ?_ hgrow
    rw [cellsS_app, List.length_append]; exact hown'
end Go.Proofs.YtmmlafhifnmkpaaDoor
