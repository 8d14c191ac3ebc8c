/- Texts of one seat, merged. -/
import Derived.Shelf.Strings.Repeat
import Derived.Test.YtpkoehnjladpoaaProg
import Derived.Test.YtpkoehnjladpoaaE08
import Derived.Deep.LoopGhost
import Derived.BigQuiet
import Derived.Deep.QuietTactic
import Derived.Test.YtpkoehnjladpoaaE05
import Derived.ProofKit
import Derived.OpenShut
import Derived.ShutString
import Derived.ChangeOld
import Derived.Carry
import Derived.Deep.Slices
import Derived.Test.YtpkoehnjladpoaaE06
import Derived.ChangeSlices
set_option maxRecDepth 100000
set_option maxHeartbeats 4000000
set_option linter.unusedVariables false
/- The library's contract for strings.Repeat, laid at this program's numbers by the guide's own tool. -/
namespace Go.Proofs
open Go.Shelf
def Try.lays105_ren : Go.Shelf.Ren := ⟨fun | 105 => 7 | 212 => 44 | 99 => 45 | 165 => 46 | 166 => 47 | 170 => 48 | 169 => 49 | 263 => 85 | 264 => 86 | 206 => 87 | 240 => 88 | 241 => 89 | 276 => 125 | 277 => 126 | n => n, fun | 9 => 9 | 3 => 3 | 4 => 4 | 20 => 20 | 0 => 0 | 46 => 84 | 109 => 85 | 5 => 5 | 72 => 91 | 76 => 95 | 51 => 34 | 146 => 146 | 53 => 23 | 148 => 148 | 70 => 88 | 37 => 89 | 75 => 94 | 127 => 150 | 164 => 178 | 80 => 97 | n => n, fun | n => n⟩
theorem Try.lays105 : Go.Proofs.Lays.n105 Try.prog Try.lays105_ren := {
  mixed := by kernel_rfl
  f99 := Try.func45.trans (congrArg some (by kernel_rfl))
  f105 := Try.func7.trans (congrArg some (by kernel_rfl))
  f165 := Try.func46.trans (congrArg some (by kernel_rfl))
  f166 := Try.func47.trans (congrArg some (by kernel_rfl))
  f169 := Try.func49.trans (congrArg some (by kernel_rfl))
  f170 := Try.func48.trans (congrArg some (by kernel_rfl))
  f206 := Try.func87.trans (congrArg some (by kernel_rfl))
  f212 := Try.func44.trans (congrArg some (by kernel_rfl))
  f240 := Try.func88.trans (congrArg some (by kernel_rfl))
  f241 := Try.func89.trans (congrArg some (by kernel_rfl))
  f263 := Try.func85.trans (congrArg some (by kernel_rfl))
  f264 := Try.func86.trans (congrArg some (by kernel_rfl))
  f276 := Try.func125.trans (congrArg some (by kernel_rfl))
  f277 := Try.func126.trans (congrArg some (by kernel_rfl))
  t0 := Try.underlying0
  a0 := Try.isAgg0
  z0 := Try.sizeOf0
  v0 := Try.zeroValue0
  t3 := Try.underlying3
  a3 := Try.isAgg3
  z3 := Try.sizeOf3
  v3 := Try.zeroValue3
  t4 := Try.underlying4
  a4 := Try.isAgg4
  z4 := Try.sizeOf4
  v4 := Try.zeroValue4
  t5 := Try.underlying5
  a5 := Try.isAgg5
  z5 := Try.sizeOf5
  v5 := Try.zeroValue5
  t9 := Try.underlying9
  a9 := Try.isAgg9
  z9 := Try.sizeOf9
  v9 := Try.zeroValue9
  t20 := Try.underlying20
  a20 := Try.isAgg20
  z20 := Try.sizeOf20
  v20 := Try.zeroValue20
  t37 := Try.underlying89
  a37 := Try.isAgg89
  z37 := Try.sizeOf89
  v37 := Try.zeroValue89
  t46 := Try.underlying84
  a46 := Try.isAgg84
  z46 := Try.sizeOf84
  v46 := Try.zeroValue84
  t51 := Try.underlying34
  a51 := Try.isAgg34
  z51 := Try.sizeOf34
  v51 := Try.zeroValue34
  t53 := Try.underlying23
  a53 := Try.isAgg23
  z53 := Try.sizeOf23
  v53 := Try.zeroValue23
  t70 := Try.underlying88
  a70 := Try.isAgg88
  z70 := Try.sizeOf88
  v70 := Try.zeroValue88
  t72 := Try.underlying91
  a72 := Try.isAgg91
  z72 := Try.sizeOf91
  v72 := Try.zeroValue91
  t75 := Try.underlying94
  a75 := Try.isAgg94
  z75 := Try.sizeOf94
  v75 := Try.zeroValue94
  t76 := Try.underlying95
  a76 := Try.isAgg95
  z76 := Try.sizeOf95
  v76 := Try.zeroValue95
  t109 := Try.underlying85
  a109 := Try.isAgg85
  z109 := Try.sizeOf85
  v109 := Try.zeroValue85
  t127 := Try.underlying150
  a127 := Try.isAgg150
  z127 := Try.sizeOf150
  v127 := Try.zeroValue150
  t146 := Try.underlying146
  a146 := Try.isAgg146
  z146 := Try.sizeOf146
  v146 := Try.zeroValue146
  t148 := Try.underlying148
  a148 := Try.isAgg148
  z148 := Try.sizeOf148
  v148 := Try.zeroValue148
  t164 := Try.underlying178
  a164 := Try.isAgg178
  z164 := Try.sizeOf178
  v164 := Try.zeroValue178 }
theorem Try.Builder_Extra_105 : Builder.Extra Try.prog Try.lays105_ren := {
  sizeBuilder := by kernel_rfl
  liesBuilder := by kernel_rfl
  t5 := Try.underlying5
  a5 := Try.isAgg5
  z5 := Try.sizeOf5
  v5 := Try.zeroValue5
  infoByte := by kernel_rfl
  cellsByte := by kernel_rfl
  sizeByte := by kernel_rfl
  neB5 := by decide }
open Go.RowKit Go.Lib in
theorem Try.strings_Repeat_main (s : ByteArray) (c : Nat) (w : World) (hc2 : 2 ≤ c) (hc : c ≤ 9223372036854775807) (hlen : s.size * c ≤ 140737488355328) (h0 : 0 < s.size) :
    Calls Try.prog 7 #[.string s, .int .i64 c] w fun e w' => e = .returned (.string ⟨(Lib.repeatL s.data.toList c).toArray⟩) ∧ Below w.heap.size w w' := Any.strings_Repeat_main Try.lays105 Try.Builder_Extra_105 s c w hc2 hc hlen h0
open Go.RowKit Go.Lib in
theorem Try.strings_Repeat_zero (s : ByteArray) (w : World) :
    Calls Try.prog 7 #[.string s, .int .i64 0] w fun e w' => e = .returned (.string ⟨#[]⟩) ∧ w' = w := Any.strings_Repeat_zero Try.lays105 s w
open Go.RowKit Go.Lib in
theorem Try.strings_Repeat_one (s : ByteArray) (w : World) :
    Calls Try.prog 7 #[.string s, .int .i64 1] w fun e w' => e = .returned (.string s) ∧ w' = w := Any.strings_Repeat_one Try.lays105 s w
open Go.RowKit Go.Lib in
theorem Try.strings_Repeat_empty (s : ByteArray) (c : Nat) (w : World) (hc2 : 2 ≤ c) (hc : c ≤ 9223372036854775807) (h0 : s.size = 0) :
    Calls Try.prog 7 #[.string s, .int .i64 c] w fun e w' => e = .returned (.string ⟨#[]⟩) ∧ w' = w := Any.strings_Repeat_empty Try.lays105 s c w hc2 hc h0
open Go.RowKit Go.Lib in
theorem Try.strings_Repeat_negative (s : ByteArray) (c : Int) (w : World) (hc : c < 0) :
    Calls Try.prog 7 #[.string s, .int .i64 c] w fun e w' => e = .panicked [{ v := repeatPanic Try.lays105_ren "strings: negative Repeat count", recovered := false }] ∧ w' = w := Any.strings_Repeat_negative Try.lays105 s c w hc
open Go.RowKit Go.Lib in
theorem Try.strings_Repeat_overflow (s : ByteArray) (c : Nat) (w : World) (hc : c ≤ 9223372036854775807) (hs : s.size ≤ 9223372036854775807) (hbig : 9223372036854775807 < s.size * c) :
    Calls Try.prog 7 #[.string s, .int .i64 c] w fun e w' => e = .panicked [{ v := repeatPanic Try.lays105_ren "strings: Repeat output length overflow", recovered := false }] ∧ w' = w := Any.strings_Repeat_overflow Try.lays105 s c w hc hs hbig
open Go.RowKit Go.Lib in
theorem Try.strings_Repeat (s : ByteArray) (c : Nat) (w : World) (hc : c ≤ 9223372036854775807) (hlen : s.size * c ≤ 140737488355328) :
    Calls Try.prog 7 #[.string s, .int .i64 c] w fun e w' => e = .returned (.string ⟨(Lib.repeatL s.data.toList c).toArray⟩) ∧ Below w.heap.size w w' := Any.strings_Repeat Try.lays105 Try.Builder_Extra_105 s c w hc hlen
end Go.Proofs
/- The walk of the law ChainFrames. -/
namespace Go.Proofs.Ytpkoehnjladpoaa
open Go.RowKit
open Ch (Fr)
def SlFx (w : World) (b o : Nat) (l : List Fr) : Prop :=
  ∀ (j : Nat) x, l[j]? = some x → w.cell? ⟨b, o + j * 5, none⟩ = some (.int .u8 4) ∧ w.cell? ⟨b, o + j * 5 + 1, none⟩ = some (.int .u16 x.count) ∧ w.cell? ⟨b, o + j * 5 + 2, none⟩ = some (.int .u32 x.id) ∧ w.cell? ⟨b, o + j * 5 + 3, none⟩ = some (.int .u64 x.tx) ∧ w.cell? ⟨b, o + j * 5 + 4, none⟩ = some (.string (str x.body))
theorem SlFx.below {w w' : World} {b o : Nat} {l : List Fr} (hx : SlFx w b o l) (hb : Below w.heap.size w w') : SlFx w' b o l := by
  intro j x hj
  obtain ⟨h0, h1, h2, h3, h4⟩ := hx j x hj
  have hlt := World.block_lt_of_cell? _ _ h0
  exact ⟨(hb.cell (p := ⟨b, o + j * 5, none⟩) hlt).trans h0, (hb.cell (p := ⟨b, o + j * 5 + 1, none⟩) hlt).trans h1, (hb.cell (p := ⟨b, o + j * 5 + 2, none⟩) hlt).trans h2, (hb.cell (p := ⟨b, o + j * 5 + 3, none⟩) hlt).trans h3, (hb.cell (p := ⟨b, o + j * 5 + 4, none⟩) hlt).trans h4⟩
/-- What the law needs of an answer. -/
inductive FrGot (E : Int) (L : List Fr) (W : World) (e : Ending) (w' : World) : Prop
  | mk (a : Option Addr) (b o c : Nat) (he : e = .returned (.tuple #[.slice a L.length c, .int .i64 E])) (ha : L = [] ∨ a = some ⟨b, o, none⟩) (hx : SlFx w' b o L) (hb : Below W.heap.size W w')
theorem FrOut.toGot {T : TypeId} {ids : List Nat} {tx : Nat} {s : List UInt8} {w : World} {e : Ending} {w' : World} (h : FrOut T ids tx s w e w') : FrGot (Ch.err ids s) (if Ch.err ids s = 0 then Ch.frs ids tx s ids.length else []) w e w' := by
  obtain ⟨v, he, ⟨a, b, o, c, rfl, ha, hx⟩, hb⟩ := h.got
  exact ⟨a, b, o, c, he, ha, hx, hb⟩
theorem both_at (v : Value) (ids : List Nat) (tx : Nat) (s : List UInt8) (hl : ids.length ≤ 40) (hid : ∀ x ∈ ids, x < 4294967296) (hs : s.length ≤ 1000000) (w : World) (hv : SlU w v ids) :
    ∃ (E : Int) (L : List Fr), L.length ≤ 40 ∧ (∀ W, Below w.heap.size w W → Calls Try.prog 8 #[v, .int .u64 tx, .string (str s)] W (FrGot E L W)) ∧ (∀ W, Below w.heap.size w W → Calls Try.prog 9 #[v, .int .u64 tx, .string (str s)] W (FrGot E L W)) := by
  refine ⟨Ch.err ids s, if Ch.err ids s = 0 then Ch.frs ids tx s ids.length else [], ?_, fun W hW => ?_, fun W hW => ?_⟩
  · split
    · rw [Ch.frs_len _ _ _ _ (Nat.le_refl _)]; exact hl
    · exact Nat.zero_le _
  · exact (frames_any v ids tx s hl hid hs W (hv.below hW)).mono fun e w' h => h.toGot
  · exact (rframes_any v ids tx s hl hid hs W (hv.below hW)).mono fun e w' h => h.toGot
theorem repeat_at (N : Nat) (h2 : 2 ≤ N) (h : N ≤ 100000) (W : World) :
    Calls Try.prog 7 #[.string ⟨#[97]⟩, .int .i64 N] W fun e w' => e = .returned (.string (str (Lib.repeatL [97] N))) ∧ Below W.heap.size W w' :=
  Try.strings_Repeat_main ⟨#[97]⟩ N W h2 (by omega) (by rw [show (ByteArray.mk #[97]).size = 1 from rfl]; omega) (by decide)
set_option maxHeartbeats 8000000 in
theorem chain_walk (v : Value) (ids : List Nat) (tx : Nat) (s : List UInt8) (long : Int) (m : Nat) (hl0 : ids.length ≤ maxLen) (hid : ∀ x ∈ ids, x < 4294967296) (hg1 : -9223372036854775808 ≤ long) (hg2 : long ≤ 9223372036854775807) (hm : m < 256) (w : World) (hv : SlU w v ids) :
    Calls Try.prog 3 #[v, .int .u64 tx, .string (str s), .int .i64 long, .int .u8 m] w fun e w' => e = .returned (.bool true) ∧ Below w.heap.size w w' := by
  have hsz := str_size s
  have HVV := Lib.hid hv
  obtain ⟨va, vb, vo, vc, hvv, _, _⟩ := hv
  subst hvv
  by_cases h1 : (20000 : Int) < s.length
  · go_enter Try.func3, Try.ntmps3
    go_wp2_with (go_at_call 6; refine (chawake_any _).mono ?_; rintro e w1 ⟨rfl, hb1⟩; have HB1 := Lib.hid hb1; clear hb1)
    go_ret
    exact ⟨rfl, HB1.out⟩
  · by_cases h2 : (40 : Int) < ids.length
    · go_enter Try.func3, Try.ntmps3
      go_wp2_with (go_at_call 6; refine (chawake_any _).mono ?_; rintro e w1 ⟨rfl, hb1⟩; have HB1 := Lib.hid hb1; clear hb1)
      go_ret
      exact ⟨rfl, HB1.out⟩
    · have HID := Lib.hid hid
      clear hid hl0
      go_enter Try.func3, Try.ntmps3
      obtain ⟨V, HVL, HCASE⟩ : ∃ V : List UInt8, Hid (V.length ≤ 1000000) ∧ Hid ((m = 0 ∧ V = s) ∨ (0 < m ∧ V = Lib.repeatL [97] (65534 + m % 4))) := by
        by_cases hm0 : m = 0
        · exact ⟨s, Lib.hid (by omega), .inl ⟨hm0, rfl⟩⟩
        · exact ⟨Lib.repeatL [97] (65534 + m % 4), Lib.hid (by rw [Lib.repeatL_length]; simp; omega), .inr ⟨by omega, rfl⟩⟩
      obtain ⟨E, L, hLL, hA, hR⟩ := both_at _ ids tx V (by omega) HID.out HVL.out w HVV.out
      have HA := Lib.hid hA
      have HR := Lib.hid hR
      clear hA hR
      rcases HCASE.out with ⟨rfl, rfl⟩ | ⟨hm0, hVr⟩
      · go_upto_region 7 with (go_at_call 6; refine (chawake_any _).mono ?_; rintro e w1 ⟨rfl, hb1⟩; have HB1 := Lib.hid hb1; clear hb1)
        clear HCASE HID HVV
        have HW := Lib.hid HB1.out
        go_wp2_with (first
          | (go_at_call 8; refine (HA.out _ HW.out).mono ?_; rintro e w3 ⟨a, b, o, c, rfl, ha, hx, hb⟩; have HAA := Lib.hid ha; have HX := Lib.hid hx; have HW3 := Lib.hid (HW.out.trans (hb.mono HW.out.size)); clear ha hx hb)
          | (go_at_call 9; refine (HR.out _ HW3.out).mono ?_; rintro e w4 ⟨a', b', o', c', rfl, ha, hx, hb⟩; have HAA' := Lib.hid ha; have HX' := Lib.hid hx; have HX4 := Lib.hid (HX.out.below hb); have HW4 := Lib.hid (HW3.out.trans (hb.mono HW3.out.size)); clear ha hx hb))
        clear HA HR HX
        go_loopg [59] L.length (fun n i wr => ∃ k : Nat, k ≤ L.length ∧ n = L.length - k ∧ i = .int .i64 k ∧ Hid (Below w4.heap.size w4 wr))
        case atStart => exact ⟨0, Nat.zero_le _, rfl, rfl, Below.refl _ _⟩
        case round =>
          obtain ⟨k, hk, rfl, rfl, HB⟩ := hrel
          by_cases hlt : k < L.length
          · obtain ⟨x, hx⟩ : ∃ x, L[k]? = some x := ⟨_, List.getElem?_eq_getElem hlt⟩
            obtain ⟨e0, e1, e2, e3, e4⟩ := HX4.out k x hx
            obtain ⟨y0, y1, y2, y3, y4⟩ := HX'.out k x hx
            have hblt : b < w4.heap.size := World.block_lt_of_cell? _ _ e0
            have d0 := (HB.out.cell (p := ⟨b, o + k * 5, none⟩) hblt).trans e0
            have d1 := (HB.out.cell (p := ⟨b, o + k * 5 + 1, none⟩) hblt).trans e1
            have d2 := (HB.out.cell (p := ⟨b, o + k * 5 + 2, none⟩) hblt).trans e2
            have d3 := (HB.out.cell (p := ⟨b, o + k * 5 + 3, none⟩) hblt).trans e3
            have d4 := (HB.out.cell (p := ⟨b, o + k * 5 + 4, none⟩) hblt).trans e4
            have hblt' : b' < w4.heap.size := World.block_lt_of_cell? _ _ y0
            have g0 := (HB.out.cell (p := ⟨b', o' + k * 5, none⟩) hblt').trans y0
            have g1 := (HB.out.cell (p := ⟨b', o' + k * 5 + 1, none⟩) hblt').trans y1
            have g2 := (HB.out.cell (p := ⟨b', o' + k * 5 + 2, none⟩) hblt').trans y2
            have g3 := (HB.out.cell (p := ⟨b', o' + k * 5 + 3, none⟩) hblt').trans y3
            have g4 := (HB.out.cell (p := ⟨b', o' + k * 5 + 4, none⟩) hblt').trans y4
            obtain rfl : a = some ⟨b, o, none⟩ := by
              rcases HAA.out with h | h
              · rw [h] at hlt; cases hlt
              · exact h
            obtain rfl : a' = some ⟨b', o', none⟩ := by
              rcases HAA'.out with h | h
              · rw [h] at hlt; cases hlt
              · exact h
            have hki : (k : Int) < L.length := by omega
            have hk0 : (0 : Int) ≤ (k : Int) := by omega
            clear e0 e1 e2 e3 e4 y0 y1 y2 y3 y4 hx hblt hblt'
            go_wp2
            go_quiet (fail)
            go_wp2
            go_roundg (L.length - (k + 1))
            case measure => omega
            case rel => exact ⟨k + 1, by omega, rfl, by go_num, below_drewN HB.out _⟩
          · obtain rfl : k = L.length := by omega
            have HEND := Lib.hid (HW4.out.trans (HB.out.mono HW4.out.size))
            by_cases hlg : (1048576 : Int) < long
            · go_wp2
              go_ret
              exact ⟨rfl, HEND.out⟩
            · have HN1 := Lib.hid (fun W => need_any long hg1 hg2 W)
              have HN2 := Lib.hid (fun W => rneed_any long hg1 (by omega) W)
              go_wp2_with (first
                | (go_at_call 10; refine (HN1.out _).mono ?_; rintro e w5 ⟨rfl, rfl⟩)
                | (go_at_call 11; refine (HN2.out _).mono ?_; rintro e w6 ⟨rfl, rfl⟩))
              go_ret
              exact ⟨rfl, HEND.out⟩
      · obtain ⟨r, hr, hr4⟩ : ∃ r : Nat, m % 4 = r ∧ r < 4 := ⟨_, rfl, Nat.mod_lt _ (by decide)⟩
        have hrm : (m : Int).tmod 4 = (r : Int) := by rw [Int.tmod_eq_emod_of_nonneg (by omega)]; omega
        rw [hr] at hVr
        obtain ⟨N, hN⟩ : ∃ N : Nat, N = 65534 + r := ⟨_, rfl⟩
        rw [← hN] at hVr
        have hw8 : IntKind.u8.wrap (r : Int) = r := by rw [IntKind.wrap_u8]; omega
        have hw64 : IntKind.i64.wrap (r : Int) = r := IntWalk.i64_in _ (by omega)
        have hwn : IntKind.i64.wrap (65534 + (r : Int)) = (N : Int) := by rw [show (65534 : Int) + (r : Int) = N by omega]; exact IntWalk.i64_in _ (by omega)
        have HRP := Lib.hid (fun W => repeat_at N (by omega) (by omega) W)
        rw [← hVr] at HRP
        clear hN hr hVr
        go_upto_region 7 with (first
          | (go_at_call 6; refine (chawake_any _).mono ?_; rintro e w1 ⟨rfl, hb1⟩; have HB1 := Lib.hid hb1; clear hb1)
          | (go_at_call 7; refine (HRP.out _).mono ?_; rintro e w2 ⟨rfl, hb2⟩; have HB2 := Lib.hid (HB1.out.trans (hb2.mono HB1.out.size)); clear hb2))
        clear HCASE HID HVV HRP hw8 hw64 hwn hrm
        have HW := Lib.hid HB2.out
        go_wp2_with (first
          | (go_at_call 8; refine (HA.out _ HW.out).mono ?_; rintro e w3 ⟨a, b, o, c, rfl, ha, hx, hb⟩; have HAA := Lib.hid ha; have HX := Lib.hid hx; have HW3 := Lib.hid (HW.out.trans (hb.mono HW.out.size)); clear ha hx hb)
          | (go_at_call 9; refine (HR.out _ HW3.out).mono ?_; rintro e w4 ⟨a', b', o', c', rfl, ha, hx, hb⟩; have HAA' := Lib.hid ha; have HX' := Lib.hid hx; have HX4 := Lib.hid (HX.out.below hb); have HW4 := Lib.hid (HW3.out.trans (hb.mono HW3.out.size)); clear ha hx hb))
        clear HA HR HX
        go_loopg [59] L.length (fun n i wr => ∃ k : Nat, k ≤ L.length ∧ n = L.length - k ∧ i = .int .i64 k ∧ Hid (Below w4.heap.size w4 wr))
        case atStart => exact ⟨0, Nat.zero_le _, rfl, rfl, Below.refl _ _⟩
        case round =>
          obtain ⟨k, hk, rfl, rfl, HB⟩ := hrel
          by_cases hlt : k < L.length
          · obtain ⟨x, hx⟩ : ∃ x, L[k]? = some x := ⟨_, List.getElem?_eq_getElem hlt⟩
            obtain ⟨e0, e1, e2, e3, e4⟩ := HX4.out k x hx
            obtain ⟨y0, y1, y2, y3, y4⟩ := HX'.out k x hx
            have hblt : b < w4.heap.size := World.block_lt_of_cell? _ _ e0
            have d0 := (HB.out.cell (p := ⟨b, o + k * 5, none⟩) hblt).trans e0
            have d1 := (HB.out.cell (p := ⟨b, o + k * 5 + 1, none⟩) hblt).trans e1
            have d2 := (HB.out.cell (p := ⟨b, o + k * 5 + 2, none⟩) hblt).trans e2
            have d3 := (HB.out.cell (p := ⟨b, o + k * 5 + 3, none⟩) hblt).trans e3
            have d4 := (HB.out.cell (p := ⟨b, o + k * 5 + 4, none⟩) hblt).trans e4
            have hblt' : b' < w4.heap.size := World.block_lt_of_cell? _ _ y0
            have g0 := (HB.out.cell (p := ⟨b', o' + k * 5, none⟩) hblt').trans y0
            have g1 := (HB.out.cell (p := ⟨b', o' + k * 5 + 1, none⟩) hblt').trans y1
            have g2 := (HB.out.cell (p := ⟨b', o' + k * 5 + 2, none⟩) hblt').trans y2
            have g3 := (HB.out.cell (p := ⟨b', o' + k * 5 + 3, none⟩) hblt').trans y3
            have g4 := (HB.out.cell (p := ⟨b', o' + k * 5 + 4, none⟩) hblt').trans y4
            obtain rfl : a = some ⟨b, o, none⟩ := by
              rcases HAA.out with h | h
              · rw [h] at hlt; cases hlt
              · exact h
            obtain rfl : a' = some ⟨b', o', none⟩ := by
              rcases HAA'.out with h | h
              · rw [h] at hlt; cases hlt
              · exact h
            have hki : (k : Int) < L.length := by omega
            have hk0 : (0 : Int) ≤ (k : Int) := by omega
            clear e0 e1 e2 e3 e4 y0 y1 y2 y3 y4 hx hblt hblt'
            go_wp2
            go_quiet (fail)
            go_wp2
            go_roundg (L.length - (k + 1))
            case measure => omega
            case rel => exact ⟨k + 1, by omega, rfl, by go_num, below_drewN HB.out _⟩
          · obtain rfl : k = L.length := by omega
            have HEND := Lib.hid (HW4.out.trans (HB.out.mono HW4.out.size))
            by_cases hlg : (1048576 : Int) < long
            · go_wp2
              go_ret
              exact ⟨rfl, HEND.out⟩
            · have HN1 := Lib.hid (fun W => need_any long hg1 hg2 W)
              have HN2 := Lib.hid (fun W => rneed_any long hg1 (by omega) W)
              go_wp2_with (first
                | (go_at_call 10; refine (HN1.out _).mono ?_; rintro e w5 ⟨rfl, rfl⟩)
                | (go_at_call 11; refine (HN2.out _).mono ?_; rintro e w6 ⟨rfl, rfl⟩))
              go_ret
              exact ⟨rfl, HEND.out⟩
end Go.Proofs.Ytpkoehnjladpoaa
/- A row of cells that is handed in, as the walk takes it. -/
namespace Go.Proofs.Ytpkoehnjladpoaa
open Go.ChangeShapes Go.WideShapes Go.ChangeAt Go.RowKit Go.Deep
open Sl (Cl Kd)
theorem cells42 : Try.prog.cellsOf 42 = 4 := by kernel_rfl
theorem cellsS : Try.prog.cellsOf 9 = 1 ∧ Try.prog.cellsOf 34 = 1 := ⟨by kernel_rfl, by kernel_rfl⟩
instance : Inhabited Cl := ⟨⟨[], [], 0, 0⟩⟩
theorem list4 {α : Type} (l : List α) (h : l.length = 4) : ∃ a b c d, l = [a, b, c, d] := by
  rcases l with _ | ⟨a, _ | ⟨b, _ | ⟨c, _ | ⟨d, _ | ⟨e, l⟩⟩⟩⟩⟩
  all_goals first | (cases h; done) | exact ⟨_, _, _, _, rfl⟩ | (simp at h)
set_option maxRecDepth 100000 in
theorem open_cells {H : Type} {enc : TypeId × Value → H} {W : World} {r : Reach} {b0 b1 : Nat} {sp : Nat → Bool} {held : Bool} {v : Value} {d : DataW H} {p : List MemPlace}
    (hv : Value.okWide Try.prog W r b0 40 v) (h : DataW.Trod enc Try.prog W b1 sp held 40 v d p) :
    ∃ l : List Cl, l.length ≤ maxLen ∧ (∀ x ∈ l, okC x) ∧ SlC W v l := by
  obtain ⟨a0, len, cap, rfl⟩ := okWide_slice Try.underlying40 hv
  obtain ⟨fuel, hf⟩ := h
  rcases open_slice Try.underlying40 hf with hcs | ⟨a, len', cap', m, n, D, Pl, hcs, _, hl, hm, hz, _, hcell⟩
  · have hcs := hcs.1
    simp [Value.cells] at hcs
    obtain ⟨rfl, rfl, rfl⟩ := hcs
    exact ⟨[], Nat.zero_le _, fun p hp => by simp at hp, none, 0, 0, 0, rfl, .inl rfl, fun j p hj => by simp at hj⟩
  · simp [Value.cells] at hcs
    obtain ⟨rfl, rfl, rfl⟩ := hcs
    have hlen : len ≤ m := by rw [hz]; split <;> omega
    have each : ∀ i, i < len → ∃ x : Cl, okC x ∧ W.cell? (a.add (i * 4)) = some (.string (str x.key)) ∧ W.cell? (a.add (i * 4 + 1)) = some (.string (str x.val)) ∧ W.cell? (a.add (i * 4 + 2)) = some (.int .u32 x.chain) ∧ W.cell? (a.add (i * 4 + 3)) = some (.int .u32 x.long) := by
      intro i hi
      obtain ⟨cs', h1, h2⟩ := hcell i (by omega)
      rw [cells42] at h1
      obtain ⟨_, hlen', hcc⟩ := World.cells?_some h1
      obtain ⟨xs, k, hk, hxy, _, hxl, hf'⟩ := DataW.trod_struct Try.underlying42 h2
      obtain ⟨v0, v1, v2, v3, rfl⟩ := list4 cs' hlen'
      obtain ⟨y0, y1, y2, y3, rfl⟩ := list4 xs hxl
      have g0 : DataW.trod enc Try.prog W b1 sp held k 9 ([v0, v1, v2, v3].drop 0 |>.take (Try.prog.cellsOf 9)) = some y0 := hf' 0 _ rfl
      have g1 : DataW.trod enc Try.prog W b1 sp held k 9 ([v0, v1, v2, v3].drop 1 |>.take (Try.prog.cellsOf 9)) = some y1 := hf' 1 _ rfl
      have g2 : DataW.trod enc Try.prog W b1 sp held k 34 ([v0, v1, v2, v3].drop 2 |>.take (Try.prog.cellsOf 34)) = some y2 := hf' 2 _ rfl
      have g3 : DataW.trod enc Try.prog W b1 sp held k 34 ([v0, v1, v2, v3].drop 3 |>.take (Try.prog.cellsOf 34)) = some y3 := hf' 3 _ rfl
      rw [cellsS.1] at g0 g1
      rw [cellsS.2] at g2 g3
      obtain ⟨s, hs, _, _⟩ := DataW.trod_string Try.underlying9 g0
      obtain ⟨t, ht, _, _⟩ := DataW.trod_string Try.underlying9 g1
      obtain ⟨q, hq, _, wq⟩ := DataW.trod_int Try.underlying34 g2
      obtain ⟨u, hu, _, wu⟩ := DataW.trod_int Try.underlying34 g3
      have c0 := hcc 0 (by omega)
      have c1 := hcc 1 (by omega)
      have c2 := hcc 2 (by omega)
      have c3 := hcc 3 (by omega)
      rw [add_add] at c0 c1 c2 c3
      have hs' : v0 = .string s := by simpa using hs
      have ht' : v1 = .string t := by simpa using ht
      have hq' : v2 = .int .u32 q := by simpa using hq
      have hu' : v3 = .int .u32 u := by simpa using hu
      obtain ⟨h3, h4⟩ := bounds_u32 wq
      obtain ⟨h5, h6⟩ := bounds_u32 wu
      obtain ⟨N, rfl⟩ := Int.eq_ofNat_of_zero_le h3
      obtain ⟨M, rfl⟩ := Int.eq_ofNat_of_zero_le h5
      refine ⟨⟨s.data.toList, t.data.toList, N, M⟩, ⟨by show N < _; omega, by show M < _; omega⟩, ?_, ?_, ?_, ?_⟩
      · rw [str_eq, ← hs']; simpa using c0
      · rw [str_eq, ← ht']; simpa using c1
      · rw [← hq']; simpa using c2
      · rw [← hu']; simpa using c3
    by_cases h0 : len = 0
    · subst h0
      exact ⟨[], Nat.zero_le _, fun p hp => by simp at hp, some a, 0, 0, cap, rfl, .inl rfl, fun j p hj => by simp at hj⟩
    · obtain ⟨b, off, spot⟩ := a
      obtain ⟨p0, _, hsp, _⟩ := each 0 (by omega)
      have hspot : spot = none := by simpa [Addr.add] using World.cell?_spot hsp
      subst hspot
      obtain ⟨f, hfx⟩ := choose_lt each
      refine ⟨(List.range len).map f, by simp; omega, ?_, some ⟨b, off, none⟩, b, off, cap, by simp, .inr rfl, fun j p hj => ?_⟩
      · intro p hp
        obtain ⟨i, hi, rfl⟩ := List.mem_map.1 hp
        exact (hfx i (List.mem_range.1 hi)).1
      · have hjl : j < len := by
          have := (List.getElem?_eq_some_iff.1 hj).1
          simpa using this
        simp [hjl] at hj
        subst hj
        obtain ⟨_, c0, c1, c2, c3⟩ := hfx j hjl
        rw [add_plain] at c0 c1 c2 c3
        refine ⟨c0, ?_, ?_, ?_⟩
        · rw [Nat.add_assoc]; exact c1
        · rw [Nat.add_assoc]; exact c2
        · rw [Nat.add_assoc]; exact c3
end Go.Proofs.Ytpkoehnjladpoaa
/- A row of numbers that is handed in, opened. -/
namespace Go.Proofs.Ytpkoehnjladpoaa
open Go.ChangeShapes Go.WideShapes Go.ChangeAt Go.RowKit Go.Deep
theorem cells_u32 : Try.prog.cellsOf 34 = 1 := by kernel_rfl
theorem bounds_u64 {q : Int} (h : (Lit.int .u64 q).wf = true) : 0 ≤ q := by
  simp [Lit.wf, IntKind.min, IntKind.max, IntKind.signed, IntKind.bits] at h
  omega
theorem bounds_u8 {q : Int} (h : (Lit.int .u8 q).wf = true) : 0 ≤ q ∧ q < 256 := by
  simp [Lit.wf, IntKind.min, IntKind.max, IntKind.signed, IntKind.bits] at h
  omega
theorem open_u32s {H : Type} {enc : TypeId × Value → H} {W : World} {r : Reach} {b0 b1 : Nat} {sp : Nat → Bool} {held : Bool} {v : Value} {d : DataW H} {p : List MemPlace}
    (hv : Value.okWide Try.prog W r b0 22 v) (h : DataW.Trod enc Try.prog W b1 sp held 22 v d p) :
    ∃ l : List Nat, l.length ≤ maxLen ∧ (∀ x ∈ l, x < 4294967296) ∧ SlU W v l := by
  obtain ⟨a0, len, cap, rfl⟩ := okWide_slice Try.underlying22 hv
  obtain ⟨fuel, hf⟩ := h
  rcases open_ints Try.underlying22 Try.underlying34 cells_u32 hf with ⟨hcs, _⟩ | ⟨a, len', cap', zs, hcs, _, hl, hm, hz, _, hcell, hw⟩
  · simp [Value.cells] at hcs
    obtain ⟨rfl, rfl, rfl⟩ := hcs
    exact ⟨[], Nat.zero_le _, fun p hp => by simp at hp, none, 0, 0, 0, rfl, .inl rfl, fun j p hj => by simp at hj⟩
  · simp [Value.cells] at hcs
    obtain ⟨rfl, rfl, rfl⟩ := hcs
    have hlen : len ≤ zs.length := by rw [hz]; split <;> omega
    by_cases h0 : len = 0
    · subst h0
      exact ⟨[], Nat.zero_le _, fun p hp => by simp at hp, some a, 0, 0, cap, rfl, .inl rfl, fun j p hj => by simp at hj⟩
    · obtain ⟨b, off, spot⟩ := a
      have hspot : spot = none := by simpa [Addr.add] using World.cell?_spot (hcell 0 (by omega))
      subst hspot
      have hbd : ∀ i, i < len → 0 ≤ zs.getD i 0 ∧ zs.getD i 0 < 4294967296 := by
        intro i hi
        have hmem : zs.getD i 0 ∈ zs := by
          have hiz : i < zs.length := by omega
          rw [List.getD_eq_getElem?_getD, List.getElem?_eq_getElem hiz]
          exact List.getElem_mem _
        have hbb := bounds_u32 (hw _ hmem)
        exact ⟨hbb.1, by omega⟩
      refine ⟨(List.range len).map fun i => (zs.getD i 0).toNat, by simp; omega, ?_, some ⟨b, off, none⟩, b, off, cap, by simp, .inr rfl, fun j x hj => ?_⟩
      · intro x hx
        obtain ⟨i, hi, rfl⟩ := List.mem_map.1 hx
        have := hbd i (List.mem_range.1 hi)
        omega
      · have hjl : j < len := by
          have := (List.getElem?_eq_some_iff.1 hj).1
          simpa using this
        simp only [List.getElem?_map, List.getElem?_range hjl, Option.map_some, Option.some.injEq] at hj
        subst hj
        have e := hcell j (by omega)
        rw [add_plain] at e
        rw [e]
        have := hbd j hjl
        congr 2
        omega
end Go.Proofs.Ytpkoehnjladpoaa
