/-
  The program's spaces and remarks (layer 16): pastBlank, as a contract of its call; prefixes and cuts of runes' texts.
-/
import Derived.Test.YtfelcneedpndiaaDoorHd
import Derived.Deep.LoopGhost
namespace Go.Proofs.YtfelcneedpndiaaDoor
open Go.RowKit Go.Lib

/-- internal/bytealg.MaxLen holds an int; strconv.ErrSyntax an error or none. -/
def TabL (w : World) : Prop := (∃ m, w.cell? ⟨2, 0, none⟩ = some (.int .i64 m)) ∧ ∃ ev, w.cell? ⟨3, 0, none⟩ = some ev ∧ (ev = .nilIface ∨ ∃ te pe, ev = .iface te pe)
theorem cell_lt {w : World} {g : Nat} {v : Value} (h : w.cell? ⟨g, 0, none⟩ = some v) : g < w.heap.size := by
  rcases Nat.lt_or_ge g w.heap.size with x | x
  · exact x
  · unfold World.cell? at h
    simp [Array.getElem?_eq_none x] at h
theorem TabL.below {w w' : World} (h : TabL w) (hb : Below w.heap.size w w') : TabL w' := by
  obtain ⟨⟨m, h1⟩, ev, h2, h3⟩ := h
  exact ⟨⟨m, ((bcell hb).1 _ _ (cell_lt h1)).trans h1⟩, ev, ((bcell hb).1 _ _ (cell_lt h2)).trans h2, h3⟩
theorem hasP (S : List Nat) (l : List UInt8) (b : Bool) (h : hasPrefix (enc S) l = b) (w : World) : Calls Tryd.prog 25 #[.string (tx S), .string ⟨l.toArray⟩] w (RetSm (.bool b) w) := by
  refine (Tryd.strings_HasPrefix (tx S) ⟨l.toArray⟩ w).mono ?_
  rintro e w' ⟨rfl, rfl⟩
  rw [tx_list, show (⟨l.toArray⟩ : ByteArray).data.toList = l from by simp, h]
  exact ⟨rfl, rfl⟩
theorem cutP (S : List Nat) (p : Nat) (l : List UInt8) (hl : l = [p.toUInt8]) (hp : p < 128) (h0 : p ≠ 0) (w : World) : Calls Tryd.prog 43 #[.string (tx S), .string ⟨l.toArray⟩] w (RetSm (.tuple #[.string (tx (if hd S = p then S.drop 1 else S)), .bool (decide (hd S = p))]) w) := by
  subst hl
  refine (Tryd.strings_CutPrefix (tx S) ⟨[p.toUInt8].toArray⟩ w).mono ?_
  rintro e w' ⟨rfl, rfl⟩
  rw [tx_list, show (⟨[p.toUInt8].toArray⟩ : ByteArray).data.toList = [p.toUInt8] from by simp, pre_one S p hp h0, trim_one S p hp h0]
  exact ⟨rfl, rfl⟩
theorem trimP (S : List Nat) (p : Nat) (l : List UInt8) (hl : l = [p.toUInt8]) (hp : p < 128) (h0 : p ≠ 0) (w : World) : Calls Tryd.prog 51 #[.string (tx S), .string ⟨l.toArray⟩] w (RetSm (.string (tx (if hd S = p then S.drop 1 else S))) w) := by
  subst hl
  refine (Tryd.strings_TrimPrefix (tx S) ⟨[p.toUInt8].toArray⟩ w).mono ?_
  rintro e w' ⟨rfl, rfl⟩
  rw [tx_list, show (⟨[p.toUInt8].toArray⟩ : ByteArray).data.toList = [p.toUInt8] from by simp, trim_one S p hp h0]
  exact ⟨rfl, rfl⟩
theorem below_drewI (w : World) (n : Nat) : Below w.heap.size w (w.drewN n) := ⟨rfl, rfl, rfl, Nat.le_refl _, fun _ _ => rfl⟩
/-- Cut at the end of a remark. -/
theorem cutR_none (S : List Nat) (hz : bz S < 4294967281) (hb : blockS S = none) (w : World) (hT : TabL w) : Calls Tryd.prog 27 #[.string (tx S), .string ⟨[(42 : UInt8), 47].toArray⟩] w fun e w' => Below w.heap.size w w' ∧ ∃ x, e = .returned (.tuple #[.string x, .string ⟨#[]⟩, .bool false]) := by
  obtain ⟨⟨m, hm⟩, -⟩ := hT
  refine (Tryd.strings_Cut (tx S) ⟨[(42 : UInt8), 47].toArray⟩ m w (by rw [tx_size]; exact hz) hm).mono ?_
  rintro e w' ⟨rfl, n, rfl⟩
  obtain ⟨c1, c2⟩ := cut_none hb
  rw [tx_list, show (⟨[(42 : UInt8), 47].toArray⟩ : ByteArray).data.toList = [42, 47] from by simp, c1, c2]
  exact ⟨below_drewI w n, _, rfl⟩
theorem cutR_some (S R : List Nat) (hz : bz S < 4294967281) (hb : blockS S = some R) (w : World) (hT : TabL w) : Calls Tryd.prog 27 #[.string (tx S), .string ⟨[(42 : UInt8), 47].toArray⟩] w fun e w' => Below w.heap.size w w' ∧ ∃ x, e = .returned (.tuple #[.string x, .string (tx R), .bool true]) := by
  obtain ⟨⟨m, hm⟩, -⟩ := hT
  refine (Tryd.strings_Cut (tx S) ⟨[(42 : UInt8), 47].toArray⟩ m w (by rw [tx_size]; exact hz) hm).mono ?_
  rintro e w' ⟨rfl, n, rfl⟩
  obtain ⟨c1, c2⟩ := cut_some hb
  rw [tx_list, show (⟨[(42 : UInt8), 47].toArray⟩ : ByteArray).data.toList = [42, 47] from by simp, c1, c2]
  exact ⟨below_drewI w n, _, rfl⟩
theorem bz_two {S : List Nat} {a b : Nat} (h : hd S = a) (h2 : hd (S.drop 1) = b) (ha : a ≠ 0) (hb : b ≠ 0) (la : a < 128) (lb : b < 128) : bz S = bz (S.drop 2) + 2 := by
  rw [bz_hd h ha la, bz_hd h2 hb lb, List.drop_drop]
theorem len_two {S : List Nat} {a b : Nat} (h : hd S = a) (h2 : hd (S.drop 1) = b) (ha : a ≠ 0) (hb : b ≠ 0) : 2 ≤ S.length := by
  have e := hd_cut h ha
  have e2 := hd_cut h2 hb
  rw [e, e2]
  simp
/-- What pastBlank answers. -/
def RetBl (o : Option (List Nat)) (w : World) (e : Ending) (w' : World) : Prop :=
  Below w.heap.size w w' ∧ match o with
    | none => e = .returned (.tuple #[.string ⟨#[]⟩, .bool false])
    | some R => e = .returned (.tuple #[.string (tx R), .bool true])
set_option linter.unusedVariables false in
set_option linter.unusedSimpArgs false in
set_option maxRecDepth 100000 in
set_option maxHeartbeats 8000000 in
theorem blank_any (S : List Nat) (hV : Vrs S) (hz : bz S < 4294967281) (w : World) (hT : TabL w) :
    Calls Tryd.prog 15 #[.string (tx S)] w (RetBl (skipS S) w) := by
  have HT := Lib.hid hT
  have HV := Lib.hid hV
  obtain ⟨s, hs⟩ : ∃ s, s = tx S := ⟨_, rfl⟩
  rw [← hs]
  have HS := Lib.hid hs
  clear hT hV hs
  go_enter Tryd.func15, Tryd.ntmps15
  go_wp2_with fail
  go_loopg [0] S.length (fun gg o wr => ∃ (Q : List Nat) (q : ByteArray), o = .string q ∧ Hid (q = tx Q) ∧ Hid (Q <:+ S ∧ skipS S = skipS Q) ∧ Q.length = gg ∧ Hid (Below w.heap.size w wr))
  case atStart => exact ⟨S, s, rfl, HS, Lib.hid ⟨List.suffix_refl _, rfl⟩, rfl, Lib.hid (Below.refl _ _)⟩
  case round =>
    obtain ⟨Q, q, rfl, hq, hQ, hgg, HB⟩ := hrel
    have qz : bz Q < 4294967281 := Nat.lt_of_le_of_lt (bz_le hQ.out.1) hz
    have QV := HV.out.suf hQ.out.1
    have s1 := dw_suf spR Q
    have CL := Lib.hid (fun W => lead_space Q QV (by omega) W)
    have CB := Lib.hid (cut_behind (s := q) hq.out s1)
    have ZQ := tx_size Q
    rw [← hq.out] at CL ZQ
    have K := Lib.hid (show Q.dropWhile spR <:+ S ∧ skipS S = skipS (Q.dropWhile spR) from ⟨s1.trans hQ.out.1, by rw [skip_sp]; exact hQ.out.2⟩)
    have HD := Lib.hid (dw_hd spR Q)
    have l1 := bz_le s1
    have az : bz (Q.dropWhile spR) < 4294967281 := Nat.lt_of_le_of_lt l1 qz
    have L1 := suf_len s1
    have V1 := QV.suf s1
    clear hq hQ s1 QV
    generalize Q.dropWhile spR = A at *
    have HA := Lib.hid (fun W => hasP A [47, 47] _ (pre_two A 47 47 (by decide) (by decide) (by decide) (by decide)) W)
    have HC := Lib.hid (fun W => hasP A [47, 42] _ (pre_two A 47 42 (by decide) (by decide) (by decide) (by decide)) W)
    obtain ⟨a, ha⟩ : ∃ a, a = tx A := ⟨_, rfl⟩
    have ZA := tx_size A
    rw [← ha] at CB HA HC ZA
    have HAa := Lib.hid ha
    obtain ⟨n, hn⟩ : ∃ n, n = bz Q - bz A := ⟨_, rfl⟩
    rw [← hn] at CL CB
    have n1 : n ≤ bz Q := by omega
    clear ha l1 hn
    by_cases c1 : hd A = 47 ∧ hd (A.drop 1) = 47
    · rw [decide_eq_true c1] at HA
      have s2 := dw_suf (fun r => r != 10) A
      have CN := Lib.hid (fun W => lead_line A V1 (by omega) W)
      have CB2 := Lib.hid (cut_behind (s := a) HAa.out s2)
      have K2 := Lib.hid (show (A.dropWhile fun r => r != 10) <:+ S ∧ skipS S = skipS (A.dropWhile fun r => r != 10) from ⟨s2.trans K.out.1, by rw [← skip_line c1.1 c1.2]; exact K.out.2⟩)
      have ne : A ≠ [] := by
        rintro rfl
        exact absurd c1.1 (by decide)
      have L2 := dw_lt (p := fun r => r != 10) ne (by rw [c1.1]; rfl)
      have l2 := bz_le s2
      rw [← HAa.out] at CN
      clear s2 c1 ne V1 HC HD
      generalize (A.dropWhile fun r => r != 10) = B at *
      obtain ⟨m, hm⟩ : ∃ m, m = bz A - bz B := ⟨_, rfl⟩
      rw [← hm] at CN CB2
      have m1 : m ≤ bz A := by omega
      obtain ⟨b, hb⟩ : ∃ b, b = tx B := ⟨_, rfl⟩
      have HBb := Lib.hid hb
      rw [← hb] at CB2
      clear hm hb
      go_wp2_with (first
        | (go_at_call 23; first
          | ((with_reducible refine (CL.out _).mono ?_); rintro e w1 ⟨rfl, b1⟩)
          | ((with_reducible refine (CN.out _).mono ?_); rintro e w2 ⟨rfl, b2⟩))
        | ((try rw [CB.out]); go_at_call 25; (with_reducible refine (HA.out _).mono ?_); rintro e w3 ⟨rfl, rfl⟩))
      go_roundg B.length
      case measure => omega
      case rel => exact ⟨B, b, by rw [CB2.out], HBb, K2, rfl, Lib.hid (bstep (bstep HB.out b1) b2)⟩
    · rw [decide_eq_false c1] at HA
      by_cases c2 : hd A = 47 ∧ hd (A.drop 1) = 42
      · rw [decide_eq_true c2] at HC
        have z2 := bz_two c2.1 c2.2 (by decide) (by decide) (by decide) (by decide)
        have y2 := len_two c2.1 c2.2 (by decide) (by decide)
        have s2 : A.drop 2 <:+ A := List.drop_suffix 2 A
        have CB2 := Lib.hid (show a.extract 2 (bz A) = tx (A.drop 2) from by
          have := cut_behind (s := a) HAa.out s2
          rw [show bz A - bz (A.drop 2) = 2 by omega] at this
          exact this)
        have TB := HT.out
        have bz2 : bz (A.drop 2) < 4294967281 := by omega
        have SB := K.out.2
        rw [skip_block c2.1 c2.2] at SB
        have a2 : 2 ≤ bz A := by omega
        obtain ⟨b, hb⟩ : ∃ b, b = tx (A.drop 2) := ⟨_, rfl⟩
        rw [← hb] at CB2
        have HBb := Lib.hid hb
        clear hb c1 HD z2
        cases hbl : blockS (A.drop 2) with
        | none =>
          rw [hbl] at SB
          have CC := Lib.hid (fun W (hW : TabL W) => cutR_none (A.drop 2) bz2 hbl W hW)
          rw [← HBb.out] at CC
          have RS := Lib.hid SB
          clear SB hbl c2
          go_wp2_with (first
            | (go_at_call 23; ((with_reducible refine (CL.out _).mono ?_); rintro e w1 ⟨rfl, b1⟩))
            | ((try rw [CB.out]); go_at_call 25; first
              | ((with_reducible refine (HA.out _).mono ?_); rintro e w3 ⟨rfl, rfl⟩)
              | ((with_reducible refine (HC.out _).mono ?_); rintro e w4 ⟨rfl, rfl⟩))
            | ((try rw [CB.out]); (try rw [CB2.out]); go_at_call 27; (with_reducible refine (CC.out _ (TB.below (bstep HB.out b1))).mono ?_); rintro e w5 ⟨b5, x, rfl⟩))
          go_ret2
          refine ⟨bstep (bstep HB.out b1) b5, ?_⟩
          rw [RS.out]
          rfl
        | some R =>
          rw [hbl] at SB
          have CC := Lib.hid (fun W (hW : TabL W) => cutR_some (A.drop 2) R bz2 hbl W hW)
          rw [← HBb.out] at CC
          have s3 := blockS_suf _ _ hbl
          have y3 := blockS_le _ _ hbl
          rw [List.length_drop] at y3
          have K2 := Lib.hid (show R <:+ S ∧ skipS S = skipS R from ⟨(s3.trans s2).trans K.out.1, SB⟩)
          clear SB hbl c2 s2 s3
          obtain ⟨r, hr⟩ : ∃ r, r = tx R := ⟨_, rfl⟩
          rw [← hr] at CC
          have HR := Lib.hid hr
          clear hr
          go_wp2_with (first
            | (go_at_call 23; ((with_reducible refine (CL.out _).mono ?_); rintro e w1 ⟨rfl, b1⟩))
            | ((try rw [CB.out]); go_at_call 25; first
              | ((with_reducible refine (HA.out _).mono ?_); rintro e w3 ⟨rfl, rfl⟩)
              | ((with_reducible refine (HC.out _).mono ?_); rintro e w4 ⟨rfl, rfl⟩))
            | ((try rw [CB.out]); (try rw [CB2.out]); go_at_call 27; (with_reducible refine (CC.out _ (TB.below (bstep HB.out b1))).mono ?_); rintro e w5 ⟨b5, x, rfl⟩))
          go_roundg R.length
          case measure => omega
          case rel => exact ⟨R, r, rfl, HR, K2, rfl, Lib.hid (bstep (bstep HB.out b1) b5)⟩
      · rw [decide_eq_false c2] at HC
        have RS := Lib.hid (show skipS S = some A from by rw [K.out.2]; exact skip_here HD.out c1 c2)
        clear c1 c2 HD
        go_wp2_with (first
          | (go_at_call 23; ((with_reducible refine (CL.out _).mono ?_); rintro e w1 ⟨rfl, b1⟩))
          | ((try rw [CB.out]); go_at_call 25; first
            | ((with_reducible refine (HA.out _).mono ?_); rintro e w3 ⟨rfl, rfl⟩)
            | ((with_reducible refine (HC.out _).mono ?_); rintro e w4 ⟨rfl, rfl⟩)))
        go_ret2
        refine ⟨bstep HB.out b1, ?_⟩
        rw [RS.out, HAa.out]
        rfl
end Go.Proofs.YtfelcneedpndiaaDoor
