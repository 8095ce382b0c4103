/-
  LexQuotes walked (layer 16).
-/
import Derived.Test.YtfelcneedpndiaaDoorIlb
import Derived.Test.YtfelcneedpndiaaDoorIvs
import Derived.Test.YtfelcneedpndiaaDoorIqt
namespace Go.Proofs.YtfelcneedpndiaaDoor
open Go.RowKit Go.Lib

theorem lexS_enc {M : List Nat} (h : Vrs M) : lexS ⟨(enc M).toArray⟩ = tokS M ∧ rnS ⟨(enc M).toArray⟩ = M := by
  have e : rnS ⟨(enc M).toArray⟩ = M := by rw [rn_ofList, rn_enc _ h]
  refine ⟨?_, e⟩
  unfold lexS
  rw [e, if_pos (by simpa using valid_enc M h)]
theorem escN_vr {r : Nat} (h : Vr r) : Vrs (escN r) := by
  intro x hx
  unfold escN at hx
  unfold Vr at *
  repeat' split at hx
  all_goals
    simp at hx
    omega
theorem quoN_vr {L : List Nat} (h : Vrs L) : Vrs (quoN L) := by
  intro x hx
  unfold quoN at hx
  rcases List.mem_cons.1 hx with rfl | hx
  · exact .inl (by decide)
  rcases List.mem_append.1 hx with hx | hx
  · obtain ⟨r, hr, hx⟩ := List.mem_flatMap.1 hx
    exact escN_vr (h r hr) x hx
  · obtain rfl : x = 34 := by simpa using hx
    exact .inl (by decide)
theorem escN_len (r : Nat) : (escN r).length ≤ 2 := by
  unfold escN
  repeat' split
  all_goals simp
theorem quoN_len : ∀ L : List Nat, (quoN L).length ≤ 2 * L.length + 2
  | [] => by simp [quoN]
  | r :: L => by
    have ih := quoN_len L
    have h := escN_len r
    unfold quoN at *
    simp only [List.flatMap_cons, List.length_cons, List.length_append] at *
    omega
set_option linter.unusedVariables false in
set_option linter.unusedSimpArgs false in
set_option maxRecDepth 100000 in
set_option maxHeartbeats 8000000 in
theorem lex_quotes (raw : ByteArray) (w : World) (hs : raw.size ≤ 1048576) (hTb : Tab16 w) : Calls Tryd.prog 4 #[.string raw] w (Ret (.bool true) w) := by
  have VS := valS_size raw
  have hL := rnS_le raw
  have hV : Vrs (rnS raw) := rn_vr _
  have LV := Lib.hid (fun W => lvalid2 raw W (by omega))
  have QU := Lib.hid (fun W => quote_any (valS raw) (by omega) W)
  rw [rnS_valS] at QU
  have ql := quoN_len (rnS raw)
  have qe := (enc_length_le (quoN (rnS raw))).2
  have qv := quoN_vr hV
  have qv2 : Vrs (64 :: quoN (rnS raw)) := by
    intro x hx
    rcases List.mem_cons.1 hx with rfl | hx
    · exact .inl (by decide)
    · exact qv x hx
  have CAT : (⟨#[64]⟩ : ByteArray) ++ ⟨(enc (quoN (rnS raw))).toArray⟩ = ⟨(enc (64 :: quoN (rnS raw))).toArray⟩ := by
    rw [show (⟨#[64]⟩ : ByteArray) = ⟨[64].toArray⟩ from rfl, appI]
    rfl
  have e1 := (lexS_enc qv).1.trans (tok_quote (rnS raw))
  have e2 := (lexS_enc qv2).1.trans (tok_temp (rnS raw))
  have T1 := Lib.hid (fun W (hW : Below w.heap.size w W) => (ltokens_any ⟨(enc (quoN (rnS raw))).toArray⟩ (by rw [sizeI]; omega) W (hTb.below hW)).mono fun e w' h => retlex_yes e1 h)
  have T2 := Lib.hid (fun W (hW : Below w.heap.size w W) => (ltokens_any ⟨(enc (64 :: quoN (rnS raw))).toArray⟩ (by rw [sizeI, enc_cons, List.length_append]; have := (encodeRune_size ((64 : Nat) : Int)).2; omega) W (hTb.below hW)).mono fun e w' h => retlex_yes e2 h)
  rw [← CAT] at T2
  have ZQ : (⟨(enc (quoN (rnS raw))).toArray⟩ : ByteArray).size ≤ 140737488355320 := by rw [sizeI]; omega
  have SE : (⟨(enc (rnS raw)).toArray⟩ : ByteArray) = valS raw := rfl
  clear e1 e2 qv qv2 CAT ql qe hV
  obtain ⟨S, hS⟩ : ∃ S, S = valS raw := ⟨_, rfl⟩
  obtain ⟨Q, hQ⟩ : ∃ Q : ByteArray, Q = ⟨(enc (quoN (rnS raw))).toArray⟩ := ⟨_, rfl⟩
  rw [← hQ] at QU T1 T2 ZQ
  rw [← hS] at LV QU SE
  clear hQ hS VS
  go_enter Tryd.func4, Tryd.ntmps4
  go_wp2_with (first
    | (go_at_call 7; (with_reducible refine (awake16 _ hTb).mono ?_); rintro e w1 ⟨rfl, b1⟩)
    | (go_at_call 10; (with_reducible refine (LV.out _).mono ?_); rintro e w2 ⟨rfl, b2⟩)
    | (go_at_call 11; (with_reducible refine (QU.out w2).mono ?_); rintro e w3 ⟨rfl, b3⟩))
  refine (T1.out _ (bstep (bstep b1 b2) b3)).mono ?_
  rintro e w4 ⟨v4, rfl, b4, L4⟩
  go_wp2_with (first
    | (go_at_call 11; (with_reducible refine (QU.out w4).mono ?_); rintro e w5 ⟨rfl, b5⟩))
  refine (T2.out _ (bstep (bstep (bstep (bstep b1 b2) b3) b4) b5)).mono ?_
  rintro e w6 ⟨v6, rfl, b6, L6⟩
  replace L4 := (L4.below b5).below b6
  have BB := Lib.hid (bstep (bstep (bstep (bstep (bstep b1 b2) b3) b4) b5) b6)
  clear b1 b2 b3 b4 b5 b6
  obtain ⟨g1, o1, k1, rfl, k1a, k1b, h1, f1⟩ := L4.opened
  obtain ⟨g2, o2, k2, rfl, k2a, k2b, h2, f2⟩ := L6.opened
  have x1 : w6.cell? ⟨g1, o1, none⟩ = some (.int .i64 3) := (f1 0 _ rfl).1
  have x2 : w6.cell? ⟨g1, o1 + 1, none⟩ = some (.string S) := by rw [← SE]; exact (f1 0 _ rfl).2.1
  have x3 : w6.cell? ⟨g2, o2, none⟩ = some (.int .i64 4) := (f2 0 _ rfl).1
  have x4 : w6.cell? ⟨g2, o2 + 1, none⟩ = some (.string S) := by rw [← SE]; exact (f2 0 _ rfl).2.1
  clear f1 f2 L4 L6 SE
  simp only [List.length_cons, List.length_nil] at *
  go_wp2
  go_ret
  exact ⟨rfl, BB.out⟩
end Go.Proofs.YtfelcneedpndiaaDoor
