/- contralaw02.play by contract. -/
import Derived.Test.YtaooiejgigicoaaSame
import Derived.Test.YtaooiejgigicoaaRefSum
import Derived.Deep.MidRow
namespace Go.Proofs.Ytaooiejgigicoaa
open Go.RowKit
/-- What is put, one by one. -/
def keyM (p : Pos) : Nat := (8 * p.e + p.c).toNat
def stepM (M : List Int) (p : Pos) : List Int := if OutEC p.e p.c then M else if Fits (atM M (keyM p) + p.a) then M.set (keyM p) (atM M (keyM p) + p.a) else M
def playM (ps : List Pos) : List Int := ps.foldl stepM (List.replicate 64 0)
def FitP (p : Pos) : Prop := Fits p.e ∧ Fits p.c ∧ Fits p.a
def PlayRel (w : World) (M : List Int) (wr : World) : Prop :=
  ∃ p n c, Blk wr (w.heap.size + 1 + 1) #[.slice p n c] 27 ∧ OwnP wr (w.heap.size + 1 + 1 + 1 + 1) 49 (.slice p n c) (posOf M) ∧ Blk wr (w.heap.size + 1 + 1 + 1) (mCells M) 30 ∧ Blk wr w.heap.size #[.slice none 0 0] 27 ∧ Blk wr (w.heap.size + 1) (mCells (List.replicate 64 0)) 30 ∧ M.length = 64 ∧ All64 M ∧ Below w.heap.size w wr
theorem zeros_cells : mCells (List.replicate 64 0) = #[.int .i64 0, .int .i64 0, .int .i64 0, .int .i64 0, .int .i64 0, .int .i64 0, .int .i64 0, .int .i64 0, .int .i64 0, .int .i64 0, .int .i64 0, .int .i64 0, .int .i64 0, .int .i64 0, .int .i64 0, .int .i64 0, .int .i64 0, .int .i64 0, .int .i64 0, .int .i64 0, .int .i64 0, .int .i64 0, .int .i64 0, .int .i64 0, .int .i64 0, .int .i64 0, .int .i64 0, .int .i64 0, .int .i64 0, .int .i64 0, .int .i64 0, .int .i64 0, .int .i64 0, .int .i64 0, .int .i64 0, .int .i64 0, .int .i64 0, .int .i64 0, .int .i64 0, .int .i64 0, .int .i64 0, .int .i64 0, .int .i64 0, .int .i64 0, .int .i64 0, .int .i64 0, .int .i64 0, .int .i64 0, .int .i64 0, .int .i64 0, .int .i64 0, .int .i64 0, .int .i64 0, .int .i64 0, .int .i64 0, .int .i64 0, .int .i64 0, .int .i64 0, .int .i64 0, .int .i64 0, .int .i64 0, .int .i64 0, .int .i64 0, .int .i64 0] := by rfl
theorem mInfo (C : Array Value) (h : C.size = 64) : (Try.prog.info? 30).map (·.size) = some C.size := by rw [h]; kernel_rfl
theorem wpList_load_blk {P : Program} {ops : Array Oper} {rest : List Oper} {o : Oper} {a : Act} {w : World} {Q : Exit → Act → World → Prop} (hw : Region.wanted o (yielded ops a.tmps) = true) (ty : TypeId) (x : Operand) (ho : o.op = .load ty x)
    (g : Nat) (hx : a.eval x = .pointer (some ⟨g, 0, none⟩)) (t : TypeId) (cs : Array Value) (d : TypeDesc) (hg : Blk w g cs t)
    (hu : P.underlying ty = some d) (hd : (match d with | .struct _ | .array _ _ => true | _ => false) = true) (hi : (P.info? ty).map (·.size) = some cs.size)
    (h : wpList P ops Q rest (a.put o.dst (.agg cs)) w) : wpList P ops Q (o :: rest) a w :=
  wpList_step fun K hK => by rw [if_pos hw]; exact wp_load_row ty x ho g hx t cs (0, 0) d hg hu hd hi (hK _ _ h)
theorem Blk.there {w : World} {b : Nat} {cs : Array Value} {t : TypeId} (h : Blk w b cs t) : w.there b 0 cs.size := fun j hj => by
  rw [Nat.zero_add, h.cell j, Array.getElem?_eq_getElem hj]
  exact ⟨rfl, h.free j⟩
theorem mCells_one (M : List Int) : (mCells M).all (·.oneCell') = true := all_oneCell_toArray fun v hv => by
  obtain ⟨x, _, rfl⟩ := List.mem_map.1 hv
  rfl
theorem Chg.setCells (b : Nat) : ∀ (vs : List Value) (o : Nat) (w0 w : World), Chg b w0 w → Chg b w0 (w.setCells b o vs)
  | [], _, _, _, h => h
  | v :: r, o, _, _, h => by rw [World.setCells]; exact Chg.setCells b r (o + 1) _ _ (h.set o v)
theorem OwnP.chg {w w' : World} {base g : Nat} {e : TypeId} {v : Value} {ps : List Pos} (h : OwnP w base e v ps) (hc : Chg g w w') (hg : g < base) : OwnP w' base e v ps := by
  have hl := h.lt
  refine ⟨h.1, ?_⟩
  rcases h.2 with h | ⟨g', cap, cur, rfl, hbg, hg', hr⟩
  · exact .inl h
  · exact .inr ⟨g', cap, cur, rfl, hbg, (hc.2 g' (hl g' rfl) (by omega)).trans hg', hr⟩
theorem PlayRel.kept {w wr w' : World} {M : List Int} (h : PlayRel w M wr) (hb : Below wr.heap.size wr w') : PlayRel w M w' := by
  obtain ⟨p, n, c, h1, h2, h3, h4, h5, h6, h7, h8⟩ := h
  exact ⟨p, n, c, h1.below hb h1.lt, h2.later hb, h3.below hb h3.lt, h4.below hb h4.lt, h5.below hb h5.lt, h6, h7, h8.trans (hb.mono h8.size)⟩
theorem all64_set {M : List Int} (h : All64 M) (k : Nat) {z : Int} (hz : Fits z) : All64 (M.set k z) := by
  intro y hy
  rcases List.mem_or_eq_of_mem_set hy with h' | rfl
  · exact h y h'
  · exact hz
theorem stop_load {P : Program} {ops : Array Oper} {rest : List Oper} {o : Oper} {a : Act} {w : World} {Q : Exit → Act → World → Prop} (ty : TypeId) (x : Operand) (_ : o.op = .load ty x) (h : Hid (wpList P ops Q (o :: rest) a w)) : wpList P ops Q (o :: rest) a w := h
theorem Blk.range {w : World} {b : Nat} {cs : Array Value} {t : TypeId} (h : Blk w b cs t) : w.rangeAt b 0 cs.toList := fun j v hv => by
  rw [Nat.zero_add, h.cell j]
  simpa using hv
theorem load_model (w : World) (b : Nat) (M : List Int) (hM : M.length = 64) (h : Blk w b (mCells M) 30) : (Instr.loadAt 30 (.pointer (some ⟨b, 0, none⟩))).run Try.prog w = .ok (.agg (mCells M)) w := by
  have h1 := run_loadAt_mid (P := Try.prog) w b 0 30 (mCells M).toList (.array 8 28) h.range Try.underlying30 rfl (by rw [mInfo (mCells M) (by rw [mCells_size]; exact hM)]; simp)
  rwa [Array.toArray_toList] at h1
theorem list_lit (M : List Int) (h : M.length = 64) : M = (List.range 64).map (fun i => M.getD i 0) :=
  List.ext_getElem (by simp [h]) (by intro i h1 h2; simp [h1])
theorem lit_of (g : Nat → Int) : mCells ((List.range 64).map g) = #[.int .i64 (g 0), .int .i64 (g 1), .int .i64 (g 2), .int .i64 (g 3), .int .i64 (g 4), .int .i64 (g 5), .int .i64 (g 6), .int .i64 (g 7), .int .i64 (g 8), .int .i64 (g 9), .int .i64 (g 10), .int .i64 (g 11), .int .i64 (g 12), .int .i64 (g 13), .int .i64 (g 14), .int .i64 (g 15), .int .i64 (g 16), .int .i64 (g 17), .int .i64 (g 18), .int .i64 (g 19), .int .i64 (g 20), .int .i64 (g 21), .int .i64 (g 22), .int .i64 (g 23), .int .i64 (g 24), .int .i64 (g 25), .int .i64 (g 26), .int .i64 (g 27), .int .i64 (g 28), .int .i64 (g 29), .int .i64 (g 30), .int .i64 (g 31), .int .i64 (g 32), .int .i64 (g 33), .int .i64 (g 34), .int .i64 (g 35), .int .i64 (g 36), .int .i64 (g 37), .int .i64 (g 38), .int .i64 (g 39), .int .i64 (g 40), .int .i64 (g 41), .int .i64 (g 42), .int .i64 (g 43), .int .i64 (g 44), .int .i64 (g 45), .int .i64 (g 46), .int .i64 (g 47), .int .i64 (g 48), .int .i64 (g 49), .int .i64 (g 50), .int .i64 (g 51), .int .i64 (g 52), .int .i64 (g 53), .int .i64 (g 54), .int .i64 (g 55), .int .i64 (g 56), .int .i64 (g 57), .int .i64 (g 58), .int .i64 (g 59), .int .i64 (g 60), .int .i64 (g 61), .int .i64 (g 62), .int .i64 (g 63)] := by rfl
theorem mCells_lit (M : List Int) (h : M.length = 64) : ∃ g : Nat → Int, (∀ i, g i = atM M i) ∧ mCells M = #[.int .i64 (g 0), .int .i64 (g 1), .int .i64 (g 2), .int .i64 (g 3), .int .i64 (g 4), .int .i64 (g 5), .int .i64 (g 6), .int .i64 (g 7), .int .i64 (g 8), .int .i64 (g 9), .int .i64 (g 10), .int .i64 (g 11), .int .i64 (g 12), .int .i64 (g 13), .int .i64 (g 14), .int .i64 (g 15), .int .i64 (g 16), .int .i64 (g 17), .int .i64 (g 18), .int .i64 (g 19), .int .i64 (g 20), .int .i64 (g 21), .int .i64 (g 22), .int .i64 (g 23), .int .i64 (g 24), .int .i64 (g 25), .int .i64 (g 26), .int .i64 (g 27), .int .i64 (g 28), .int .i64 (g 29), .int .i64 (g 30), .int .i64 (g 31), .int .i64 (g 32), .int .i64 (g 33), .int .i64 (g 34), .int .i64 (g 35), .int .i64 (g 36), .int .i64 (g 37), .int .i64 (g 38), .int .i64 (g 39), .int .i64 (g 40), .int .i64 (g 41), .int .i64 (g 42), .int .i64 (g 43), .int .i64 (g 44), .int .i64 (g 45), .int .i64 (g 46), .int .i64 (g 47), .int .i64 (g 48), .int .i64 (g 49), .int .i64 (g 50), .int .i64 (g 51), .int .i64 (g 52), .int .i64 (g 53), .int .i64 (g 54), .int .i64 (g 55), .int .i64 (g 56), .int .i64 (g 57), .int .i64 (g 58), .int .i64 (g 59), .int .i64 (g 60), .int .i64 (g 61), .int .i64 (g 62), .int .i64 (g 63)] :=
  ⟨fun i => M.getD i 0, fun _ => rfl, by
    have e := lit_of (fun i => M.getD i 0)
    rw [← list_lit M h] at e
    exact e⟩
set_option linter.unusedSimpArgs false in
set_option maxHeartbeats 8000000 in
set_option maxRecDepth 100000 in
theorem play_any (w : World) (v : Value) (ps : List Pos) (hr : PRow w v ps) (hn : ps.length ≤ 1000) (hf : ∀ p ∈ ps, FitP p) :
    Calls Try.prog 9 #[v] w fun x w' => ∃ v', x = .returned (.tuple #[vecV v', .agg (mCells (playM ps)), .bool true]) ∧ PRow w' v' (posOf (playM ps)) ∧ Below w.heap.size w w' := by
  obtain ⟨pv, cv, rfl⟩ := hr.shape
  have HR := Lib.hid hr
  have HF := Lib.hid hf
  clear hr hf
  have HR0 : Hid (PlayRel w (List.replicate 64 0) ((((w.alloc (.cells #[.slice none 0 0] 27)).alloc (.cells #[.int .i64 0, .int .i64 0, .int .i64 0, .int .i64 0, .int .i64 0, .int .i64 0, .int .i64 0, .int .i64 0, .int .i64 0, .int .i64 0, .int .i64 0, .int .i64 0, .int .i64 0, .int .i64 0, .int .i64 0, .int .i64 0, .int .i64 0, .int .i64 0, .int .i64 0, .int .i64 0, .int .i64 0, .int .i64 0, .int .i64 0, .int .i64 0, .int .i64 0, .int .i64 0, .int .i64 0, .int .i64 0, .int .i64 0, .int .i64 0, .int .i64 0, .int .i64 0, .int .i64 0, .int .i64 0, .int .i64 0, .int .i64 0, .int .i64 0, .int .i64 0, .int .i64 0, .int .i64 0, .int .i64 0, .int .i64 0, .int .i64 0, .int .i64 0, .int .i64 0, .int .i64 0, .int .i64 0, .int .i64 0, .int .i64 0, .int .i64 0, .int .i64 0, .int .i64 0, .int .i64 0, .int .i64 0, .int .i64 0, .int .i64 0, .int .i64 0, .int .i64 0, .int .i64 0, .int .i64 0, .int .i64 0, .int .i64 0, .int .i64 0, .int .i64 0] 30)).alloc (.cells #[.slice none 0 0] 27)).alloc (.cells #[.int .i64 0, .int .i64 0, .int .i64 0, .int .i64 0, .int .i64 0, .int .i64 0, .int .i64 0, .int .i64 0, .int .i64 0, .int .i64 0, .int .i64 0, .int .i64 0, .int .i64 0, .int .i64 0, .int .i64 0, .int .i64 0, .int .i64 0, .int .i64 0, .int .i64 0, .int .i64 0, .int .i64 0, .int .i64 0, .int .i64 0, .int .i64 0, .int .i64 0, .int .i64 0, .int .i64 0, .int .i64 0, .int .i64 0, .int .i64 0, .int .i64 0, .int .i64 0, .int .i64 0, .int .i64 0, .int .i64 0, .int .i64 0, .int .i64 0, .int .i64 0, .int .i64 0, .int .i64 0, .int .i64 0, .int .i64 0, .int .i64 0, .int .i64 0, .int .i64 0, .int .i64 0, .int .i64 0, .int .i64 0, .int .i64 0, .int .i64 0, .int .i64 0, .int .i64 0, .int .i64 0, .int .i64 0, .int .i64 0, .int .i64 0, .int .i64 0, .int .i64 0, .int .i64 0, .int .i64 0, .int .i64 0, .int .i64 0, .int .i64 0, .int .i64 0] 30))) := by
    rw [← zeros_cells]
    refine ⟨none, 0, 0, (Blk.new' _ _ _ (by simp)).alloc _, OwnP.nil_ _ _ _, Blk.new' _ _ _ (by simp), (((Blk.new w _ _).alloc _).alloc _).alloc _, ((Blk.new' _ _ _ (by simp)).alloc _).alloc _, by simp, ?_, (((oneB w _).alloc (by simp) _).alloc (by simp <;> omega) _).alloc (by simp <;> omega) _⟩
    intro a ha
    rw [List.mem_replicate] at ha
    omega
  generalize hnl : ps.length = n at *
  have HNL := Lib.hid hnl
  clear hnl
  go_enter Try.func9, Try.ntmps9
  go_wp2_with fail
  go_loopw [15] (fun i wr => ∃ k : Nat, k ≤ n ∧ i = .int .i64 k ∧ Hid (PlayRel w ((ps.take k).foldl stepM (List.replicate 64 0)) wr)) (fun i _ => n - (intOf i).toNat)
  case atStart => exact ⟨0, by omega, rfl, HR0⟩
  case round =>
    obtain ⟨k, hk, rfl, HK⟩ := hrel
    obtain ⟨p1, n1, c1, hbv, hrv, hbm, hz0, hz1, hM, hM64, hbw⟩ := HK.out
    have HBV := Lib.hid hbv
    have HRV := Lib.hid hrv
    have HBM := Lib.hid hbm
    have HZ0 := Lib.hid hz0
    have HZ1 := Lib.hid hz1
    have HM := Lib.hid hM
    have HM64 := Lib.hid hM64
    have HBW := Lib.hid hbw
    by_cases hlt : k < n
    · have hkl : k < ps.length := by rw [HNL.out]; exact hlt
      obtain ⟨b, o, rfl, hbl, e0, e1, e2⟩ := (HR.out.kept HBW.out).at_ k hkl
      have HFP := Lib.hid (HF.out ps[k] (List.getElem_mem hkl))
      have HST : Hid ((ps.take (k + 1)).foldl stepM (List.replicate 64 0) = stepM ((ps.take k).foldl stepM (List.replicate 64 0)) ps[k]) := by
        show _ = _
        rw [List.take_succ_eq_append_getElem hkl, List.foldl_append]; rfl
      generalize (ps.take k).foldl stepM (List.replicate 64 0) = M at *
      generalize hP : ps[k] = P at *
      obtain ⟨e, c, a⟩ := P
      dsimp only at e0 e1 e2
      clear hbv hrv hbm hz0 hz1 hM hM64 hbw HK hP
      have v0 : wr.cell? ⟨w.heap.size + 1 + 1, 0, none⟩ = some (.slice p1 n1 c1) := HBV.out.cell 0
      have lv := HBV.out.lt
      by_cases hout : OutEC e c
      · by_cases h1 : e < 0
        · skip
          have HAD := Lib.hid (add_o1 (wr.alloc (.cells #[.int .i64 e, .int .i64 c, .int .i64 a] 46)) (.slice p1 n1 c1) (posOf M) [] [] [] e c a (HRV.out.row.kept (oneB wr _)) (Nat.le_trans (posOf_length M) (by omega)) h1)
          have hE : addE e c (midA []) a = 1 := if_pos hout
          have hL : addL (posOf M) [] [] e c (midA []) a = posOf M := if_pos hout
          unfold AddPost at HAD
          rw [hE, hL] at HAD
          unfold vecV at HAD
          have HSM : Hid (stepM M ⟨e, c, a⟩ = M) := if_pos hout
          clear hE hL hout
          go_wp2_with fail
          refine HAD.out.mono ?_
          rintro y w2 ⟨v2, rfl, ho2, hb2⟩
          obtain ⟨p2, c2, hv2⟩ := ho2.form
          generalize (posOf M).length = n2 at hv2
          subst hv2
          have HB2 := Lib.hid ((oneB wr (.cells #[.int .i64 e, .int .i64 c, .int .i64 a] 46)).trans (hb2.mono (by simp)))
          have hput := (Blk.new wr #[.int .i64 e, .int .i64 c, .int .i64 a] 46).below hb2 (by simp)
          have g0 : w2.cell? ⟨wr.heap.size, 0, none⟩ = some (.int .i64 e) := hput.cell 0
          have g1 : w2.cell? ⟨wr.heap.size, 1, none⟩ = some (.int .i64 c) := hput.cell 1
          have lput := hput.lt
          have hm2 := HBM.out.below HB2.out HBM.out.lt
          have lm2 := hm2.lt
          have HSA := Lib.hid (same_any (w2.alloc (.cells #[.slice p2 n2 c2] 27)) (.slice p2 n2 c2) M HM.out (ho2.row.kept (oneB w2 _)))
          unfold vecV at HSA
          have HMX := Lib.hid (hm2.alloc (.cells #[.slice p2 n2 c2] 27))
          have HIN := Lib.hid (mInfo (mCells M) (by rw [mCells_size]; exact HM.out))
          clear ho2 hb2 hput hm2 lm2 v0 lv
          go_wp2_with (with_reducible refine stop_load 30 (.tmp 6) rfl ?_)
          refine wpList_load_blk (by kernel_rfl) 30 (.tmp 6) rfl (w.heap.size + 1 + 1 + 1) rfl 30 (mCells M) (.array 8 28) HMX.out Try.underlying30 rfl HIN.out ?_
          go_wp2_with fail
          refine HSA.out.mono ?_
          rintro y w3 ⟨rfl, hb3⟩
          have HB3 := Lib.hid (HB2.out.trans (((oneB w2 (.cells #[.slice p2 n2 c2] 27)).trans (hb3.mono (by simp))).mono HB2.out.size))
          have HN : Hid (PlayRel w ((ps.take (k + 1)).foldl stepM (List.replicate 64 0)) w3) := by
            rw [HST.out, HSM.out]
            exact ⟨p1, n1, c1, HBV.out.below HB3.out HBV.out.lt, HRV.out.later HB3.out, HBM.out.below HB3.out HBM.out.lt, HZ0.out.below HB3.out HZ0.out.lt, HZ1.out.below HB3.out HZ1.out.lt, HM.out, HM64.out, HBW.out.trans (HB3.out.mono HBW.out.size)⟩
          clear hb3
          go_wp2_with fail
          go_roundw
          case rel => exact ⟨k + 1, by omega, by go_num, HN⟩
          case measure => simp [intOf]; omega
        · by_cases h2 : 8 ≤ e
          · skip
            have HAD := Lib.hid (add_o2 (wr.alloc (.cells #[.int .i64 e, .int .i64 c, .int .i64 a] 46)) (.slice p1 n1 c1) (posOf M) [] [] [] e c a (HRV.out.row.kept (oneB wr _)) (Nat.le_trans (posOf_length M) (by omega)) (by omega) h2)
            have hE : addE e c (midA []) a = 1 := if_pos hout
            have hL : addL (posOf M) [] [] e c (midA []) a = posOf M := if_pos hout
            unfold AddPost at HAD
            rw [hE, hL] at HAD
            unfold vecV at HAD
            have HSM : Hid (stepM M ⟨e, c, a⟩ = M) := if_pos hout
            clear hE hL hout
            go_wp2_with fail
            refine HAD.out.mono ?_
            rintro y w2 ⟨v2, rfl, ho2, hb2⟩
            obtain ⟨p2, c2, hv2⟩ := ho2.form
            generalize (posOf M).length = n2 at hv2
            subst hv2
            have HB2 := Lib.hid ((oneB wr (.cells #[.int .i64 e, .int .i64 c, .int .i64 a] 46)).trans (hb2.mono (by simp)))
            have hput := (Blk.new wr #[.int .i64 e, .int .i64 c, .int .i64 a] 46).below hb2 (by simp)
            have g0 : w2.cell? ⟨wr.heap.size, 0, none⟩ = some (.int .i64 e) := hput.cell 0
            have g1 : w2.cell? ⟨wr.heap.size, 1, none⟩ = some (.int .i64 c) := hput.cell 1
            have lput := hput.lt
            have hm2 := HBM.out.below HB2.out HBM.out.lt
            have lm2 := hm2.lt
            have HSA := Lib.hid (same_any (w2.alloc (.cells #[.slice p2 n2 c2] 27)) (.slice p2 n2 c2) M HM.out (ho2.row.kept (oneB w2 _)))
            unfold vecV at HSA
            have HMX := Lib.hid (hm2.alloc (.cells #[.slice p2 n2 c2] 27))
            have HIN := Lib.hid (mInfo (mCells M) (by rw [mCells_size]; exact HM.out))
            clear ho2 hb2 hput hm2 lm2 v0 lv
            go_wp2_with (with_reducible refine stop_load 30 (.tmp 6) rfl ?_)
            refine wpList_load_blk (by kernel_rfl) 30 (.tmp 6) rfl (w.heap.size + 1 + 1 + 1) rfl 30 (mCells M) (.array 8 28) HMX.out Try.underlying30 rfl HIN.out ?_
            go_wp2_with fail
            refine HSA.out.mono ?_
            rintro y w3 ⟨rfl, hb3⟩
            have HB3 := Lib.hid (HB2.out.trans (((oneB w2 (.cells #[.slice p2 n2 c2] 27)).trans (hb3.mono (by simp))).mono HB2.out.size))
            have HN : Hid (PlayRel w ((ps.take (k + 1)).foldl stepM (List.replicate 64 0)) w3) := by
              rw [HST.out, HSM.out]
              exact ⟨p1, n1, c1, HBV.out.below HB3.out HBV.out.lt, HRV.out.later HB3.out, HBM.out.below HB3.out HBM.out.lt, HZ0.out.below HB3.out HZ0.out.lt, HZ1.out.below HB3.out HZ1.out.lt, HM.out, HM64.out, HBW.out.trans (HB3.out.mono HBW.out.size)⟩
            clear hb3
            go_wp2_with fail
            go_roundw
            case rel => exact ⟨k + 1, by omega, by go_num, HN⟩
            case measure => simp [intOf]; omega
          · by_cases h3 : c < 0
            · skip
              have HAD := Lib.hid (add_o3 (wr.alloc (.cells #[.int .i64 e, .int .i64 c, .int .i64 a] 46)) (.slice p1 n1 c1) (posOf M) [] [] [] e c a (HRV.out.row.kept (oneB wr _)) (Nat.le_trans (posOf_length M) (by omega)) (by omega) (by omega) h3)
              have hE : addE e c (midA []) a = 1 := if_pos hout
              have hL : addL (posOf M) [] [] e c (midA []) a = posOf M := if_pos hout
              unfold AddPost at HAD
              rw [hE, hL] at HAD
              unfold vecV at HAD
              have HSM : Hid (stepM M ⟨e, c, a⟩ = M) := if_pos hout
              clear hE hL hout
              go_wp2_with fail
              refine HAD.out.mono ?_
              rintro y w2 ⟨v2, rfl, ho2, hb2⟩
              obtain ⟨p2, c2, hv2⟩ := ho2.form
              generalize (posOf M).length = n2 at hv2
              subst hv2
              have HB2 := Lib.hid ((oneB wr (.cells #[.int .i64 e, .int .i64 c, .int .i64 a] 46)).trans (hb2.mono (by simp)))
              have hput := (Blk.new wr #[.int .i64 e, .int .i64 c, .int .i64 a] 46).below hb2 (by simp)
              have g0 : w2.cell? ⟨wr.heap.size, 0, none⟩ = some (.int .i64 e) := hput.cell 0
              have g1 : w2.cell? ⟨wr.heap.size, 1, none⟩ = some (.int .i64 c) := hput.cell 1
              have lput := hput.lt
              have hm2 := HBM.out.below HB2.out HBM.out.lt
              have lm2 := hm2.lt
              have HSA := Lib.hid (same_any (w2.alloc (.cells #[.slice p2 n2 c2] 27)) (.slice p2 n2 c2) M HM.out (ho2.row.kept (oneB w2 _)))
              unfold vecV at HSA
              have HMX := Lib.hid (hm2.alloc (.cells #[.slice p2 n2 c2] 27))
              have HIN := Lib.hid (mInfo (mCells M) (by rw [mCells_size]; exact HM.out))
              clear ho2 hb2 hput hm2 lm2 v0 lv
              go_wp2_with (with_reducible refine stop_load 30 (.tmp 6) rfl ?_)
              refine wpList_load_blk (by kernel_rfl) 30 (.tmp 6) rfl (w.heap.size + 1 + 1 + 1) rfl 30 (mCells M) (.array 8 28) HMX.out Try.underlying30 rfl HIN.out ?_
              go_wp2_with fail
              refine HSA.out.mono ?_
              rintro y w3 ⟨rfl, hb3⟩
              have HB3 := Lib.hid (HB2.out.trans (((oneB w2 (.cells #[.slice p2 n2 c2] 27)).trans (hb3.mono (by simp))).mono HB2.out.size))
              have HN : Hid (PlayRel w ((ps.take (k + 1)).foldl stepM (List.replicate 64 0)) w3) := by
                rw [HST.out, HSM.out]
                exact ⟨p1, n1, c1, HBV.out.below HB3.out HBV.out.lt, HRV.out.later HB3.out, HBM.out.below HB3.out HBM.out.lt, HZ0.out.below HB3.out HZ0.out.lt, HZ1.out.below HB3.out HZ1.out.lt, HM.out, HM64.out, HBW.out.trans (HB3.out.mono HBW.out.size)⟩
              clear hb3
              go_wp2_with fail
              go_roundw
              case rel => exact ⟨k + 1, by omega, by go_num, HN⟩
              case measure => simp [intOf]; omega
            · by_cases h4 : 8 ≤ c
              · skip
                have HAD := Lib.hid (add_o4 (wr.alloc (.cells #[.int .i64 e, .int .i64 c, .int .i64 a] 46)) (.slice p1 n1 c1) (posOf M) [] [] [] e c a (HRV.out.row.kept (oneB wr _)) (Nat.le_trans (posOf_length M) (by omega)) (by omega) (by omega) (by omega) h4)
                have hE : addE e c (midA []) a = 1 := if_pos hout
                have hL : addL (posOf M) [] [] e c (midA []) a = posOf M := if_pos hout
                unfold AddPost at HAD
                rw [hE, hL] at HAD
                unfold vecV at HAD
                have HSM : Hid (stepM M ⟨e, c, a⟩ = M) := if_pos hout
                clear hE hL hout
                go_wp2_with fail
                refine HAD.out.mono ?_
                rintro y w2 ⟨v2, rfl, ho2, hb2⟩
                obtain ⟨p2, c2, hv2⟩ := ho2.form
                generalize (posOf M).length = n2 at hv2
                subst hv2
                have HB2 := Lib.hid ((oneB wr (.cells #[.int .i64 e, .int .i64 c, .int .i64 a] 46)).trans (hb2.mono (by simp)))
                have hput := (Blk.new wr #[.int .i64 e, .int .i64 c, .int .i64 a] 46).below hb2 (by simp)
                have g0 : w2.cell? ⟨wr.heap.size, 0, none⟩ = some (.int .i64 e) := hput.cell 0
                have g1 : w2.cell? ⟨wr.heap.size, 1, none⟩ = some (.int .i64 c) := hput.cell 1
                have lput := hput.lt
                have hm2 := HBM.out.below HB2.out HBM.out.lt
                have lm2 := hm2.lt
                have HSA := Lib.hid (same_any (w2.alloc (.cells #[.slice p2 n2 c2] 27)) (.slice p2 n2 c2) M HM.out (ho2.row.kept (oneB w2 _)))
                unfold vecV at HSA
                have HMX := Lib.hid (hm2.alloc (.cells #[.slice p2 n2 c2] 27))
                have HIN := Lib.hid (mInfo (mCells M) (by rw [mCells_size]; exact HM.out))
                clear ho2 hb2 hput hm2 lm2 v0 lv
                go_wp2_with (with_reducible refine stop_load 30 (.tmp 6) rfl ?_)
                refine wpList_load_blk (by kernel_rfl) 30 (.tmp 6) rfl (w.heap.size + 1 + 1 + 1) rfl 30 (mCells M) (.array 8 28) HMX.out Try.underlying30 rfl HIN.out ?_
                go_wp2_with fail
                refine HSA.out.mono ?_
                rintro y w3 ⟨rfl, hb3⟩
                have HB3 := Lib.hid (HB2.out.trans (((oneB w2 (.cells #[.slice p2 n2 c2] 27)).trans (hb3.mono (by simp))).mono HB2.out.size))
                have HN : Hid (PlayRel w ((ps.take (k + 1)).foldl stepM (List.replicate 64 0)) w3) := by
                  rw [HST.out, HSM.out]
                  exact ⟨p1, n1, c1, HBV.out.below HB3.out HBV.out.lt, HRV.out.later HB3.out, HBM.out.below HB3.out HBM.out.lt, HZ0.out.below HB3.out HZ0.out.lt, HZ1.out.below HB3.out HZ1.out.lt, HM.out, HM64.out, HBW.out.trans (HB3.out.mono HBW.out.size)⟩
                clear hb3
                go_wp2_with fail
                go_roundw
                case rel => exact ⟨k + 1, by omega, by go_num, HN⟩
                case measure => simp [intOf]; omega
              · exact absurd hout (by unfold OutEC; omega)
      · have hin : (0 ≤ e ∧ e < 8) ∧ 0 ≤ c ∧ c < 8 := by unfold OutEC at hout; omega
        obtain ⟨E, rfl⟩ : ∃ E : Nat, e = E := ⟨e.toNat, by omega⟩
        obtain ⟨C, rfl⟩ : ∃ C : Nat, c = C := ⟨c.toNat, by omega⟩
        have hkey : keyM ⟨E, C, a⟩ = E * 8 + C := by unfold keyM; dsimp only; omega
        have hK : E * 8 + C < 64 := by omega
        have hA := around_posOf M (E * 8 + C) hK 0
        rw [show (E * 8 + C) / 8 = E by omega, show (E * 8 + C) % 8 = C by omega] at hA
        have hset := fun x => posOf_set M (E * 8 + C) x hK HM.out
        rw [show (E * 8 + C) / 8 = E by omega, show (E * 8 + C) % 8 = C by omega] at hset
        have hx64 : Fits (atM M (E * 8 + C)) := HM64.out.getD _
        have hfa : Fits a := HFP.out.2.2
        have HST2 : Hid (stepM M ⟨E, C, a⟩ = if Fits (atM M (E * 8 + C) + a) then M.set (E * 8 + C) (atM M (E * 8 + C) + a) else M) := by
          show stepM _ _ = _
          unfold stepM; rw [if_neg hout, hkey]
        have hmc := mCells_get M (E * 8 + C) (by rw [HM.out]; exact hK)
        have hmid := mid_A M (E * 8 + C)
        have e8 : (E : Int) < 8 := by omega
        have c8 : (C : Int) < 8 := by omega
        have HS64 : Hid ((M.set (E * 8 + C) (atM M (E * 8 + C) + a)).length = 64) := by show _ = _; rw [List.length_set]; exact HM.out
        have HSC : Hid (∀ z, (mCells M).setIfInBounds (E * 8 + C) (.int .i64 z) = mCells (M.set (E * 8 + C) z)) := fun z => by unfold mCells; rw [List.setIfInBounds_toArray, ← List.map_set]
        have HKK := Lib.hid hK
        have HIN := Lib.hid (mInfo (mCells M) (by rw [mCells_size]; exact HM.out))
        clear hin hkey hK
        by_cases hs : Fits (atM M (E * 8 + C) + a)
        · have HAD := Lib.hid (add_yes (wr.alloc (.cells #[.int .i64 E, .int .i64 C, .int .i64 a] 46)) (.slice p1 n1 c1) (posOf M) _ _ _ E C a (HRV.out.row.kept (oneB wr _)) hA (Nat.le_trans (posOf_length M) (by omega)) (by rw [hmid]; exact hx64) hfa (by omega) e8 (by omega) c8 (by rw [hmid]; exact hs))
          have hE : addE E C (midA (midP M (E * 8 + C))) a = 0 := by rw [hmid]; exact (if_neg hout).trans (sumE_yes hs)
          have hL : addL (posOf M) (preP M (E * 8 + C)) (postP M (E * 8 + C)) E C (midA (midP M (E * 8 + C))) a = posOf (M.set (E * 8 + C) (atM M (E * 8 + C) + a)) := by
            rw [hmid, hset]; exact (if_neg hout).trans (if_pos hs)
          unfold AddPost at HAD
          rw [hE, hL] at HAD
          unfold vecV at HAD
          have HSM : Hid (stepM M ⟨E, C, a⟩ = M.set (E * 8 + C) (atM M (E * 8 + C) + a)) := HST2.out.trans (if_pos hs)
          have HRS := Lib.hid (fun (W' : World) (b' : Nat) (hr : Row .i64 W' (.slice (some ⟨b', 0, none⟩) 2 2) [atM M (E * 8 + C), a]) => refsum_any (.slice (some ⟨b', 0, none⟩) 2 2) [atM M (E * 8 + C), a] W' (by simp) (by intro y hy; simp at hy; rcases hy with rfl | rfl; exact hx64; exact hfa) hr)
          rw [show [atM M (E * 8 + C), a].sum = atM M (E * 8 + C) + a by simp, sumN_yes hs, sumE_yes hs] at HRS
          have HNX : Hid (All64 (M.set (E * 8 + C) (atM M (E * 8 + C) + a))) := all64_set HM64.out _ hs
          clear hE hL hout hA hset hmid hx64 hfa hs
          generalize hxx : atM M (E * 8 + C) = x at *
          clear hxx
          go_wp2_with fail
          refine HAD.out.mono ?_
          rintro y w2 ⟨v2, rfl, ho2, hb2⟩
          obtain ⟨p2, c2, hv2⟩ := ho2.form
          generalize (posOf (M.set (E * 8 + C) (x + a))).length = n2 at hv2
          subst hv2
          have HB2 := Lib.hid ((oneB wr (.cells #[.int .i64 E, .int .i64 C, .int .i64 a] 46)).trans (hb2.mono (by simp)))
          have hput := (Blk.new wr #[.int .i64 E, .int .i64 C, .int .i64 a] 46).below hb2 (by simp)
          have HPUT := Lib.hid hput
          have g0 : w2.cell? ⟨wr.heap.size, 0, none⟩ = some (.int .i64 E) := hput.cell 0
          have g1 : w2.cell? ⟨wr.heap.size, 1, none⟩ = some (.int .i64 C) := hput.cell 1
          have lput := hput.lt
          have HO2 := Lib.hid ho2
          clear ho2 hb2 hput v0 lv
          have e9 : (E : Int) ≤ 7 := by omega
          have c9 : (C : Int) ≤ 7 := by omega
          go_wp2_with fail
          have hp3 := HPUT.out.alloc (.cells #[.slice p2 n2 c2] 27)
          have hm3 := (HBM.out.below HB2.out HBM.out.lt).alloc (.cells #[.slice p2 n2 c2] 27)
          have HS : Hid (∀ w', Below (w2.alloc (.cells #[.slice p2 n2 c2] 27)).heap.size (w2.alloc (.cells #[.slice p2 n2 c2] 27)) w' → w'.cell? ⟨wr.heap.size, 0, none⟩ = some (.int .i64 E) ∧ w'.cell? ⟨wr.heap.size, 1, none⟩ = some (.int .i64 C) ∧ w'.cell? ⟨wr.heap.size, 2, none⟩ = some (.int .i64 a) ∧ w'.cell? ⟨w.heap.size + 1 + 1 + 1, E * 8 + C, none⟩ = some (.int .i64 x)) := fun w' h => ⟨(hp3.below h hp3.lt).cell 0, (hp3.below h hp3.lt).cell 1, (hp3.below h hp3.lt).cell 2, ((hm3.below h hm3.lt).cell (E * 8 + C)).trans hmc⟩
          have hS1 := HS.out (w2.alloc (.cells #[.slice p2 n2 c2] 27)).drew (Below.refl _ (w2.alloc (.cells #[.slice p2 n2 c2] 27))).drew
          have HB3 := Lib.hid (HB2.out.trans ((oneB w2 (.cells #[.slice p2 n2 c2] 27)).mono HB2.out.size))
          have HN3 := Lib.hid (Blk.new w2 #[.slice p2 n2 c2] 27)
          have hrow2 : Row .i64 ((w2.alloc (.cells #[.slice p2 n2 c2] 27)).alloc (.cells #[.int .i64 x, .int .i64 a] 2)).drew (.slice (some ⟨w2.heap.size + 1, 0, none⟩) 2 2) [x, a] := by
            have h := Row.two (w2.alloc (.cells #[.slice p2 n2 c2] 27)) 2 x a 2 (Nat.le_refl _)
            rw [show (w2.alloc (.cells #[.slice p2 n2 c2] 27)).heap.size = w2.heap.size + 1 by simp] at h
            exact h
          have HRW2 := Lib.hid hrow2
          have HBW3 : Hid (Below (w2.alloc (.cells #[.slice p2 n2 c2] 27)).heap.size (w2.alloc (.cells #[.slice p2 n2 c2] 27)) ((w2.alloc (.cells #[.slice p2 n2 c2] 27)).alloc (.cells #[.int .i64 x, .int .i64 a] 2)).drew) := ((Below.refl _ (w2.alloc (.cells #[.slice p2 n2 c2] 27))).alloc (Nat.le_refl _) _).drew
          clear hp3 hm3 g0 g1 lput hrow2
          refine wp_region_held_drew (S := fun w' => w'.cell? ⟨wr.heap.size, 0, none⟩ = some (.int .i64 E) ∧ w'.cell? ⟨wr.heap.size, 1, none⟩ = some (.int .i64 C) ∧ w'.cell? ⟨wr.heap.size, 2, none⟩ = some (.int .i64 a) ∧ w'.cell? ⟨w.heap.size + 1 + 1 + 1, E * 8 + C, none⟩ = some (.int .i64 x)) (by kernel_rfl) hS1 (fun hS0 => ?_)
          refine wpAnyH_take (i := 0) (v := ?_) rfl (by kernel_rfl) (by kernel_rfl) (by kernel_rfl) (fun _ _ _ h => h) (Or.inl ⟨by kernel_rfl, ?_⟩) (by first | assumption | trivial) ?_
          rotate_left
          · intro w hSw
            try dsimp only at hSw
            first | (go_simp; done) | (go_simp; with_reducible rfl)
          try simp only [Act.put, List.getElem_toArray, List.getElem_cons_succ, List.getElem_cons_zero, List.setIfInBounds_toArray, List.set_cons_zero, List.set_cons_succ]
          refine wpAnyH_take (i := 1) (v := ?_) rfl (by kernel_rfl) (by kernel_rfl) (by kernel_rfl) (fun _ _ _ h => h) (Or.inl ⟨by kernel_rfl, ?_⟩) (by first | assumption | trivial) ?_
          rotate_left
          · intro w hSw
            try dsimp only at hSw
            first | (go_simp; done) | (go_simp; with_reducible rfl)
          try simp only [Act.put, List.getElem_toArray, List.getElem_cons_succ, List.getElem_cons_zero, List.setIfInBounds_toArray, List.set_cons_zero, List.set_cons_succ]
          refine wpAnyH_take (i := 2) (v := ?_) rfl (by kernel_rfl) (by kernel_rfl) (by kernel_rfl) (fun _ _ _ h => h) (Or.inl ⟨by kernel_rfl, ?_⟩) (by first | assumption | trivial) ?_
          rotate_left
          · intro w hSw
            try dsimp only at hSw
            first | (go_simp; done) | (go_simp; with_reducible rfl)
          try simp only [Act.put, List.getElem_toArray, List.getElem_cons_succ, List.getElem_cons_zero, List.setIfInBounds_toArray, List.set_cons_zero, List.set_cons_succ]
          refine wpAnyH_take (i := 3) (v := ?_) rfl (by kernel_rfl) (by kernel_rfl) (by kernel_rfl) (fun _ _ _ h => h) (Or.inl ⟨by kernel_rfl, ?_⟩) (by first | assumption | trivial) ?_
          rotate_left
          · intro w hSw
            try dsimp only at hSw
            first | (go_simp; done) | (go_simp; with_reducible rfl)
          try simp only [Act.put, List.getElem_toArray, List.getElem_cons_succ, List.getElem_cons_zero, List.setIfInBounds_toArray, List.set_cons_zero, List.set_cons_succ]
          refine wpAnyH_take (i := 4) (v := ?_) rfl (by kernel_rfl) (by kernel_rfl) (by kernel_rfl) (fun _ _ _ h => h) (Or.inl ⟨by kernel_rfl, ?_⟩) (by first | assumption | trivial) ?_
          rotate_left
          · intro w hSw
            try dsimp only at hSw
            first | (go_simp; done) | (go_simp; with_reducible rfl)
          try simp only [Act.put, List.getElem_toArray, List.getElem_cons_succ, List.getElem_cons_zero, List.setIfInBounds_toArray, List.set_cons_zero, List.set_cons_succ]
          refine wpAnyH_take (i := 5) (v := ?_) rfl (by kernel_rfl) (by kernel_rfl) (by kernel_rfl) (fun _ _ _ h => h) (Or.inl ⟨by kernel_rfl, ?_⟩) (by first | assumption | trivial) ?_
          rotate_left
          · intro w hSw
            try dsimp only at hSw
            first | (go_simp; done) | (go_simp; with_reducible rfl)
          try simp only [Act.put, List.getElem_toArray, List.getElem_cons_succ, List.getElem_cons_zero, List.setIfInBounds_toArray, List.set_cons_zero, List.set_cons_succ]
          refine wpAnyH_take (i := 6) (v := ?_) rfl (by kernel_rfl) (by kernel_rfl) (by kernel_rfl) (fun _ _ _ h => h) (Or.inl ⟨by kernel_rfl, ?_⟩) (by first | assumption | trivial) ?_
          rotate_left
          · intro w hSw
            try dsimp only at hSw
            first | (go_simp; done) | (go_simp; with_reducible rfl)
          try simp only [Act.put, List.getElem_toArray, List.getElem_cons_succ, List.getElem_cons_zero, List.setIfInBounds_toArray, List.set_cons_zero, List.set_cons_succ]
          refine wpAnyH_take (i := 7) (v := ?_) rfl (by kernel_rfl) (by kernel_rfl) (by kernel_rfl) (fun _ _ _ h => h) (Or.inl ⟨by kernel_rfl, ?_⟩) (by first | assumption | trivial) ?_
          rotate_left
          · intro w hSw
            try dsimp only at hSw
            first | (go_simp; done) | (go_simp; with_reducible rfl)
          try simp only [Act.put, List.getElem_toArray, List.getElem_cons_succ, List.getElem_cons_zero, List.setIfInBounds_toArray, List.set_cons_zero, List.set_cons_succ]
          refine wpAnyH_take (i := 8) (v := ?_) rfl (by kernel_rfl) (by kernel_rfl) (by kernel_rfl) (fun _ _ _ h => h) (Or.inl ⟨by kernel_rfl, ?_⟩) (by first | assumption | trivial) ?_
          rotate_left
          · intro w hSw
            try dsimp only at hSw
            first | (go_simp; done) | (go_simp; with_reducible rfl)
          try simp only [Act.put, List.getElem_toArray, List.getElem_cons_succ, List.getElem_cons_zero, List.setIfInBounds_toArray, List.set_cons_zero, List.set_cons_succ]
          refine wpAnyH_ready (rs := [9]) (by kernel_rfl) (by simp) ?_
          refine AllReadyH.cons rfl (fun K hK => ?_) AllReadyH.nil
          go_simp
          refine hK.out _ _ (HS.out ((w2.alloc (.cells #[.slice p2 n2 c2] 27)).alloc (.cells #[.int .i64 x, .int .i64 a] 2)).drew HBW3.out) (fun hS => ?_)
          clear hK K
          try simp only [Act.put, List.getElem_toArray, List.getElem_cons_succ, List.getElem_cons_zero, List.setIfInBounds_toArray, List.set_cons_zero, List.set_cons_succ]
          refine wpAnyH_ready (rs := [10]) (by kernel_rfl) (by simp) ?_
          refine AllReadyH.cons rfl (fun K hK => ?_) AllReadyH.nil
          go_simp
          go_at_call 12
          refine (HRS.out _ _ HRW2.out).mono ?_
          rintro y w4 ⟨rfl, hb4⟩
          have HB4 := Lib.hid (HBW3.out.trans (hb4.mono (by simp)))
          clear hb4
          try go_wp2_with fail
          refine hK.out _ _ (HS.out w4 HB4.out) (fun hS => ?_)
          clear hK K
          try simp only [Act.put, List.getElem_toArray, List.getElem_cons_succ, List.getElem_cons_zero, List.setIfInBounds_toArray, List.set_cons_zero, List.set_cons_succ]
          refine wpAnyH_take (i := 11) (v := ?_) rfl (by kernel_rfl) (by kernel_rfl) (by kernel_rfl) (fun _ _ _ h => h) (Or.inl ⟨by kernel_rfl, ?_⟩) (by first | assumption | trivial) ?_
          rotate_left
          · intro w hSw
            try dsimp only at hSw
            first | (go_simp; done) | (go_simp; with_reducible rfl)
          try simp only [Act.put, List.getElem_toArray, List.getElem_cons_succ, List.getElem_cons_zero, List.setIfInBounds_toArray, List.set_cons_zero, List.set_cons_succ]
          refine wpAnyH_take (i := 12) (v := ?_) rfl (by kernel_rfl) (by kernel_rfl) (by kernel_rfl) (fun _ _ _ h => h) (Or.inl ⟨by kernel_rfl, ?_⟩) (by first | assumption | trivial) ?_
          rotate_left
          · intro w hSw
            try dsimp only at hSw
            first | (go_simp; done) | (go_simp; with_reducible rfl)
          try simp only [Act.put, List.getElem_toArray, List.getElem_cons_succ, List.getElem_cons_zero, List.setIfInBounds_toArray, List.set_cons_zero, List.set_cons_succ]
          refine wpAnyH_take (i := 13) (v := ?_) rfl (by kernel_rfl) (by kernel_rfl) (by kernel_rfl) (fun _ _ _ h => h) (Or.inl ⟨by kernel_rfl, ?_⟩) (by first | assumption | trivial) ?_
          rotate_left
          · intro w hSw
            try dsimp only at hSw
            first | (go_simp; done) | (go_simp; with_reducible rfl)
          try simp only [Act.put, List.getElem_toArray, List.getElem_cons_succ, List.getElem_cons_zero, List.setIfInBounds_toArray, List.set_cons_zero, List.set_cons_succ]
          refine wpAnyH_take (i := 14) (v := ?_) rfl (by kernel_rfl) (by kernel_rfl) (by kernel_rfl) (fun _ _ _ h => h) (Or.inl ⟨by kernel_rfl, ?_⟩) (by first | assumption | trivial) ?_
          rotate_left
          · intro w hSw
            try dsimp only at hSw
            first | (go_simp; done) | (go_simp; with_reducible rfl)
          try simp only [Act.put, List.getElem_toArray, List.getElem_cons_succ, List.getElem_cons_zero, List.setIfInBounds_toArray, List.set_cons_zero, List.set_cons_succ]
          refine wpAnyH_take (i := 15) (v := ?_) rfl (by kernel_rfl) (by kernel_rfl) (by kernel_rfl) (fun _ _ _ h => h) (Or.inl ⟨by kernel_rfl, ?_⟩) (by first | assumption | trivial) ?_
          rotate_left
          · intro w hSw
            try dsimp only at hSw
            first | (go_simp; done) | (go_simp; with_reducible rfl)
          try simp only [Act.put, List.getElem_toArray, List.getElem_cons_succ, List.getElem_cons_zero, List.setIfInBounds_toArray, List.set_cons_zero, List.set_cons_succ]
          refine wpAnyH_done (by kernel_rfl) ?_ _
          have HB5 := Lib.hid (HB3.out.trans (HB4.out.mono (by have := HB3.out.size; omega)))
          have hnx := HN3.out.below HB4.out HN3.out.lt
          have HNX4 := Lib.hid hnx
          have hv4 := HBV.out.below HB5.out HBV.out.lt
          have hm4 := HBM.out.below HB5.out HBM.out.lt
          have z04 := HZ0.out.below HB5.out HZ0.out.lt
          have z14 := HZ1.out.below HB5.out HZ1.out.lt
          have HV4 := Lib.hid hv4
          have HM4 := Lib.hid hm4
          have HZ04 := Lib.hid z04
          have HZ14 := Lib.hid z14
          have lw := HBW.out.size
          have lmb := HBM.out.lt
          have lw4 := HB5.out.size
          have hp4 := (HPUT.out.alloc (.cells #[.slice p2 n2 c2] 27)).below HB4.out (HPUT.out.alloc (.cells #[.slice p2 n2 c2] 27)).lt
          have hs14 : w4.drew.cell? ⟨wr.heap.size, 0, none⟩ = some (.int .i64 E) ∧ w4.drew.cell? ⟨wr.heap.size, 1, none⟩ = some (.int .i64 C) := ⟨hp4.cell 0, hp4.cell 1⟩
          have hne : wr.heap.size ≠ w.heap.size + 1 + 1 + 1 := by omega
          have hp5 : Blk (w4.setCell ⟨w.heap.size + 1 + 1 + 1, E * 8 + C, none⟩ (.int .i64 (x + a))).drew wr.heap.size #[.int .i64 E, .int .i64 C, .int .i64 a] 46 := (hp4.setOther (a := ⟨w.heap.size + 1 + 1 + 1, E * 8 + C, none⟩) (Ne.symm hne) _).drew
          have hs15 : (w4.setCell ⟨w.heap.size + 1 + 1 + 1, E * 8 + C, none⟩ (.int .i64 (x + a))).drew.cell? ⟨wr.heap.size, 0, none⟩ = some (.int .i64 E) ∧ (w4.setCell ⟨w.heap.size + 1 + 1 + 1, E * 8 + C, none⟩ (.int .i64 (x + a))).drew.cell? ⟨wr.heap.size, 1, none⟩ = some (.int .i64 C) := ⟨hp5.cell 0, hp5.cell 1⟩
          have m4c : w4.drew.cell? ⟨w.heap.size + 1 + 1 + 1, E * 8 + C, none⟩ = some (.int .i64 x) := (hm4.cell (E * 8 + C)).trans hmc
          have fm4 : w4.drew.frozen? ⟨w.heap.size + 1 + 1 + 1, E * 8 + C, none⟩ = false := hm4.free _
          have lm4 : w.heap.size + 1 + 1 + 1 < w4.drew.heap.size := hm4.lt
          have HS15 := Lib.hid hs15
          have lnx : w.heap.size + 1 + 1 + 1 < w2.heap.size := by have := HB2.out.size; omega
          have hm5 : Blk (w4.setCell ⟨w.heap.size + 1 + 1 + 1, E * 8 + C, none⟩ (.int .i64 (x + a))) (w.heap.size + 1 + 1 + 1) (mCells (M.set (E * 8 + C) (x + a))) 30 := by rw [← HSC.out]; exact hm4.set (E * 8 + C) _
          have hn5 : Blk (w4.setCell ⟨w.heap.size + 1 + 1 + 1, E * 8 + C, none⟩ (.int .i64 (x + a))).drew w2.heap.size #[.slice p2 n2 c2] 27 := (hnx.setOther (a := ⟨w.heap.size + 1 + 1 + 1, E * 8 + C, none⟩) (by show w.heap.size + 1 + 1 + 1 ≠ w2.heap.size; omega) _).drew
          have hv5 : Blk (w4.setCell ⟨w.heap.size + 1 + 1 + 1, E * 8 + C, none⟩ (.int .i64 (x + a))).drew (w.heap.size + 1 + 1) #[.slice p1 n1 c1] 27 := (hv4.setOther (a := ⟨w.heap.size + 1 + 1 + 1, E * 8 + C, none⟩) (by show w.heap.size + 1 + 1 + 1 ≠ w.heap.size + 1 + 1; omega) _).drew
          have HM5 := Lib.hid hm5
          have HN5 := Lib.hid hn5
          have HV5 := Lib.hid hv5
          clear hp4 hne hp5 hs15 hm5 hn5 hv5 hnx hv4 hm4 z04 z14 hmc
          go_wp2_with fail
          refine wp_region_held_drew (S := fun w' => w'.cell? ⟨wr.heap.size, 0, none⟩ = some (.int .i64 E) ∧ w'.cell? ⟨wr.heap.size, 1, none⟩ = some (.int .i64 C)) (by kernel_rfl) hs14 (fun hS0 => ?_)
          refine wpAnyH_take (i := 0) (v := ?_) rfl (by kernel_rfl) (by kernel_rfl) (by kernel_rfl) (fun _ _ _ h => h) (Or.inl ⟨by kernel_rfl, ?_⟩) (by first | assumption | trivial) ?_
          rotate_left
          · intro w hSw
            try dsimp only at hSw
            first | (go_simp; done) | (go_simp; with_reducible rfl)
          try simp only [Act.put, List.getElem_toArray, List.getElem_cons_succ, List.getElem_cons_zero, List.setIfInBounds_toArray, List.set_cons_zero, List.set_cons_succ]
          refine wpAnyH_take (i := 1) (v := ?_) rfl (by kernel_rfl) (by kernel_rfl) (by kernel_rfl) (fun _ _ _ h => h) (Or.inl ⟨by kernel_rfl, ?_⟩) (by first | assumption | trivial) ?_
          rotate_left
          · intro w hSw
            try dsimp only at hSw
            first | (go_simp; done) | (go_simp; with_reducible rfl)
          try simp only [Act.put, List.getElem_toArray, List.getElem_cons_succ, List.getElem_cons_zero, List.setIfInBounds_toArray, List.set_cons_zero, List.set_cons_succ]
          refine wpAnyH_take (i := 2) (v := ?_) rfl (by kernel_rfl) (by kernel_rfl) (by kernel_rfl) (fun _ _ _ h => h) (Or.inl ⟨by kernel_rfl, ?_⟩) (by first | assumption | trivial) ?_
          rotate_left
          · intro w hSw
            try dsimp only at hSw
            first | (go_simp; done) | (go_simp; with_reducible rfl)
          try simp only [Act.put, List.getElem_toArray, List.getElem_cons_succ, List.getElem_cons_zero, List.setIfInBounds_toArray, List.set_cons_zero, List.set_cons_succ]
          refine wpAnyH_take (i := 3) (v := ?_) rfl (by kernel_rfl) (by kernel_rfl) (by kernel_rfl) (fun _ _ _ h => h) (Or.inl ⟨by kernel_rfl, ?_⟩) (by first | assumption | trivial) ?_
          rotate_left
          · intro w hSw
            try dsimp only at hSw
            first | (go_simp; done) | (go_simp; with_reducible rfl)
          try simp only [Act.put, List.getElem_toArray, List.getElem_cons_succ, List.getElem_cons_zero, List.setIfInBounds_toArray, List.set_cons_zero, List.set_cons_succ]
          refine wpAnyH_take (i := 4) (v := ?_) rfl (by kernel_rfl) (by kernel_rfl) (by kernel_rfl) (fun _ _ _ h => h) (Or.inl ⟨by kernel_rfl, ?_⟩) (by first | assumption | trivial) ?_
          rotate_left
          · intro w hSw
            try dsimp only at hSw
            first | (go_simp; done) | (go_simp; with_reducible rfl)
          try simp only [Act.put, List.getElem_toArray, List.getElem_cons_succ, List.getElem_cons_zero, List.setIfInBounds_toArray, List.set_cons_zero, List.set_cons_succ]
          refine wpAnyH_take (i := 5) (v := ?_) rfl (by kernel_rfl) (by kernel_rfl) (by kernel_rfl) (fun _ _ _ h => h) (Or.inl ⟨by kernel_rfl, ?_⟩) (by first | assumption | trivial) ?_
          rotate_left
          · intro w hSw
            try dsimp only at hSw
            first | (go_simp; done) | (go_simp; with_reducible rfl)
          try simp only [Act.put, List.getElem_toArray, List.getElem_cons_succ, List.getElem_cons_zero, List.setIfInBounds_toArray, List.set_cons_zero, List.set_cons_succ]
          refine wpAnyH_take (i := 6) (v := ?_) rfl (by kernel_rfl) (by kernel_rfl) (by kernel_rfl) (fun _ _ _ h => h) (Or.inl ⟨by kernel_rfl, ?_⟩) (by first | assumption | trivial) ?_
          rotate_left
          · intro w hSw
            try dsimp only at hSw
            first | (go_simp; done) | (go_simp; with_reducible rfl)
          try simp only [Act.put, List.getElem_toArray, List.getElem_cons_succ, List.getElem_cons_zero, List.setIfInBounds_toArray, List.set_cons_zero, List.set_cons_succ]
          refine wpAnyH_ready (rs := [7]) (by kernel_rfl) (by simp) ?_
          refine AllReadyH.cons rfl (fun K hK => ?_) AllReadyH.nil
          go_simp
          refine hK.out _ _ HS15.out (fun hS => ?_)
          clear hK K
          try simp only [Act.put, List.getElem_toArray, List.getElem_cons_succ, List.getElem_cons_zero, List.setIfInBounds_toArray, List.set_cons_zero, List.set_cons_succ]
          refine wpAnyH_done (by kernel_rfl) ?_ _
          have nx0 : (w4.setCell ⟨w.heap.size + 1 + 1 + 1, E * 8 + C, none⟩ (.int .i64 (x + a))).drew.cell? ⟨w2.heap.size, 0, none⟩ = some (.slice p2 n2 c2) := HN5.out.cell 0
          have vv0 : (w4.setCell ⟨w.heap.size + 1 + 1 + 1, E * 8 + C, none⟩ (.int .i64 (x + a))).drew.cell? ⟨w.heap.size + 1 + 1, 0, none⟩ = some (.slice p1 n1 c1) := HV5.out.cell 0
          have fv0 : (w4.setCell ⟨w.heap.size + 1 + 1 + 1, E * 8 + C, none⟩ (.int .i64 (x + a))).drew.frozen? ⟨w.heap.size + 1 + 1, 0, none⟩ = false := HV5.out.free 0
          have hv6 : Blk ((w4.setCell ⟨w.heap.size + 1 + 1 + 1, E * 8 + C, none⟩ (.int .i64 (x + a))).setCell ⟨w.heap.size + 1 + 1, 0, none⟩ (.slice p2 n2 c2)).drew (w.heap.size + 1 + 1) #[.slice p2 n2 c2] 27 := (show Blk (w4.setCell ⟨w.heap.size + 1 + 1 + 1, E * 8 + C, none⟩ (.int .i64 (x + a))) _ _ _ from HV5.out).set 0 (.slice p2 n2 c2)
          have vw0 : w4.cell? ⟨w.heap.size + 1 + 1, 0, none⟩ = some (.slice p1 n1 c1) := HV4.out.cell 0
          have vw1 : (w4.setCell ⟨w.heap.size + 1 + 1 + 1, E * 8 + C, none⟩ (.int .i64 (x + a))).cell? ⟨w.heap.size + 1 + 1, 0, none⟩ = some (.slice p1 n1 c1) := HV5.out.cell 0
          have vw2 : ((w4.setCell ⟨w.heap.size + 1 + 1 + 1, E * 8 + C, none⟩ (.int .i64 (x + a))).setCell ⟨w.heap.size + 1 + 1, 0, none⟩ (.slice p2 n2 c2)).drew.cell? ⟨w.heap.size + 1 + 1, 0, none⟩ = some (.slice p2 n2 c2) := hv6.cell 0
          have vw3 : ((w4.setCell ⟨w.heap.size + 1 + 1 + 1, E * 8 + C, none⟩ (.int .i64 (x + a))).setCell ⟨w.heap.size + 1 + 1, 0, none⟩ (.slice p2 n2 c2)).cell? ⟨w.heap.size + 1 + 1, 0, none⟩ = some (.slice p2 n2 c2) := hv6.cell 0
          have HMX : Hid (Blk ((w4.setCell ⟨w.heap.size + 1 + 1 + 1, E * 8 + C, none⟩ (.int .i64 (x + a))).setCell ⟨w.heap.size + 1 + 1, 0, none⟩ (.slice p2 n2 c2)).drew (w.heap.size + 1 + 1 + 1) (mCells (M.set (E * 8 + C) (x + a))) 30) := (HM5.out.setOther (a := ⟨w.heap.size + 1 + 1, 0, none⟩) (by simp) _).drew
          have hc1 : Chg (w.heap.size + 1 + 1 + 1) w4 (w4.setCell ⟨w.heap.size + 1 + 1 + 1, E * 8 + C, none⟩ (.int .i64 (x + a))) := (Chg.refl _ _).set _ _
          have hc2 : Chg (w.heap.size + 1 + 1) (w4.setCell ⟨w.heap.size + 1 + 1 + 1, E * 8 + C, none⟩ (.int .i64 (x + a))) ((w4.setCell ⟨w.heap.size + 1 + 1 + 1, E * 8 + C, none⟩ (.int .i64 (x + a))).setCell ⟨w.heap.size + 1 + 1, 0, none⟩ (.slice p2 n2 c2)).drew := ((Chg.refl _ _).set 0 _).drew
          have ho4 : OwnP ((w4.setCell ⟨w.heap.size + 1 + 1 + 1, E * 8 + C, none⟩ (.int .i64 (x + a))).setCell ⟨w.heap.size + 1 + 1, 0, none⟩ (.slice p2 n2 c2)).drew (w.heap.size + 1 + 1 + 1 + 1) 49 (.slice p2 n2 c2) (posOf (M.set (E * 8 + C) (x + a))) := ((((HO2.out.later (oneB w2 (.cells #[.slice p2 n2 c2] 27))).later HB4.out).less (by simp; omega)).chg hc1 (by omega)).chg hc2 (by omega)
          have hbs : Below w.heap.size w ((w4.setCell ⟨w.heap.size + 1 + 1 + 1, E * 8 + C, none⟩ (.int .i64 (x + a))).setCell ⟨w.heap.size + 1 + 1, 0, none⟩ (.slice p2 n2 c2)).drew := (((HBW.out.trans (HB5.out.mono HBW.out.size)).setCell (p := ⟨w.heap.size + 1 + 1 + 1, E * 8 + C, none⟩) (by show w.heap.size ≤ w.heap.size + 1 + 1 + 1; omega) _).setCell (p := ⟨w.heap.size + 1 + 1, 0, none⟩) (by show w.heap.size ≤ w.heap.size + 1 + 1; omega) _).drew
          have HN6 : Hid (PlayRel w (M.set (E * 8 + C) (x + a)) ((w4.setCell ⟨w.heap.size + 1 + 1 + 1, E * 8 + C, none⟩ (.int .i64 (x + a))).setCell ⟨w.heap.size + 1 + 1, 0, none⟩ (.slice p2 n2 c2)).drew) := ⟨p2, n2, c2, hv6, ho4, HMX.out, (HZ04.out.chg hc1 (by omega)).chg hc2 (by omega), (HZ14.out.chg hc1 (by omega)).chg hc2 (by omega), HS64.out, HNX.out, hbs⟩
          have HSA := Lib.hid (same_any ((w4.setCell ⟨w.heap.size + 1 + 1 + 1, E * 8 + C, none⟩ (.int .i64 (x + a))).setCell ⟨w.heap.size + 1 + 1, 0, none⟩ (.slice p2 n2 c2)).drew (.slice p2 n2 c2) (M.set (E * 8 + C) (x + a)) HS64.out ho4.row)
          have HIN2 := Lib.hid (mInfo (mCells (M.set (E * 8 + C) (x + a))) (by rw [mCells_size]; exact HS64.out))
          unfold vecV at HSA
          clear hv6 hc1 hc2 ho4 hbs m4c fm4 lm4
          go_wp2_with (with_reducible refine stop_load 30 (.tmp 6) rfl ?_)
          refine wpList_load_blk (by kernel_rfl) 30 (.tmp 6) rfl (w.heap.size + 1 + 1 + 1) rfl 30 (mCells (M.set (E * 8 + C) (x + a))) (.array 8 28) HMX.out Try.underlying30 rfl HIN2.out ?_
          go_wp2_with fail
          refine HSA.out.mono ?_
          rintro y w7 ⟨rfl, hb7⟩
          have HN : Hid (PlayRel w ((ps.take (k + 1)).foldl stepM (List.replicate 64 0)) w7) := by
            rw [HST.out, HSM.out]
            exact HN6.out.kept hb7
          clear hb7
          go_wp2_with fail
          go_roundw
          case rel => exact ⟨k + 1, by omega, by go_num, HN⟩
          case measure => simp [intOf]; omega
        · have HAD := Lib.hid (add_no (wr.alloc (.cells #[.int .i64 E, .int .i64 C, .int .i64 a] 46)) (.slice p1 n1 c1) (posOf M) _ _ _ E C a (HRV.out.row.kept (oneB wr _)) hA (Nat.le_trans (posOf_length M) (by omega)) (by rw [hmid]; exact hx64) hfa (by omega) e8 (by omega) c8 (by rw [hmid]; exact hs))
          have hE : addE E C (midA (midP M (E * 8 + C))) a = 10 := by rw [hmid]; exact (if_neg hout).trans (sumE_no hs)
          have hL : addL (posOf M) (preP M (E * 8 + C)) (postP M (E * 8 + C)) E C (midA (midP M (E * 8 + C))) a = posOf M := by
            rw [hmid]; exact (if_neg hout).trans (if_neg hs)
          unfold AddPost at HAD
          rw [hE, hL] at HAD
          unfold vecV at HAD
          have HSM : Hid (stepM M ⟨E, C, a⟩ = M) := HST2.out.trans (if_neg hs)
          have HRS := Lib.hid (fun (W' : World) (b' : Nat) (hr : Row .i64 W' (.slice (some ⟨b', 0, none⟩) 2 2) [atM M (E * 8 + C), a]) => refsum_any (.slice (some ⟨b', 0, none⟩) 2 2) [atM M (E * 8 + C), a] W' (by simp) (by intro y hy; simp at hy; rcases hy with rfl | rfl; exact hx64; exact hfa) hr)
          rw [show [atM M (E * 8 + C), a].sum = atM M (E * 8 + C) + a by simp, sumN_no hs, sumE_no hs] at HRS
          have HNX : Hid (All64 M) := HM64.out
          clear hE hL hout hA hset hmid hx64 hfa hs
          generalize hxx : atM M (E * 8 + C) = x at *
          clear hxx
          go_wp2_with fail
          refine HAD.out.mono ?_
          rintro y w2 ⟨v2, rfl, ho2, hb2⟩
          obtain ⟨p2, c2, hv2⟩ := ho2.form
          generalize (posOf M).length = n2 at hv2
          subst hv2
          have HB2 := Lib.hid ((oneB wr (.cells #[.int .i64 E, .int .i64 C, .int .i64 a] 46)).trans (hb2.mono (by simp)))
          have hput := (Blk.new wr #[.int .i64 E, .int .i64 C, .int .i64 a] 46).below hb2 (by simp)
          have HPUT := Lib.hid hput
          have g0 : w2.cell? ⟨wr.heap.size, 0, none⟩ = some (.int .i64 E) := hput.cell 0
          have g1 : w2.cell? ⟨wr.heap.size, 1, none⟩ = some (.int .i64 C) := hput.cell 1
          have lput := hput.lt
          have HO2 := Lib.hid ho2
          clear ho2 hb2 hput v0 lv
          have e9 : (E : Int) ≤ 7 := by omega
          have c9 : (C : Int) ≤ 7 := by omega
          go_wp2_with fail
          have hp3 := HPUT.out.alloc (.cells #[.slice p2 n2 c2] 27)
          have hm3 := (HBM.out.below HB2.out HBM.out.lt).alloc (.cells #[.slice p2 n2 c2] 27)
          have HS : Hid (∀ w', Below (w2.alloc (.cells #[.slice p2 n2 c2] 27)).heap.size (w2.alloc (.cells #[.slice p2 n2 c2] 27)) w' → w'.cell? ⟨wr.heap.size, 0, none⟩ = some (.int .i64 E) ∧ w'.cell? ⟨wr.heap.size, 1, none⟩ = some (.int .i64 C) ∧ w'.cell? ⟨wr.heap.size, 2, none⟩ = some (.int .i64 a) ∧ w'.cell? ⟨w.heap.size + 1 + 1 + 1, E * 8 + C, none⟩ = some (.int .i64 x)) := fun w' h => ⟨(hp3.below h hp3.lt).cell 0, (hp3.below h hp3.lt).cell 1, (hp3.below h hp3.lt).cell 2, ((hm3.below h hm3.lt).cell (E * 8 + C)).trans hmc⟩
          have hS1 := HS.out (w2.alloc (.cells #[.slice p2 n2 c2] 27)).drew (Below.refl _ (w2.alloc (.cells #[.slice p2 n2 c2] 27))).drew
          have HB3 := Lib.hid (HB2.out.trans ((oneB w2 (.cells #[.slice p2 n2 c2] 27)).mono HB2.out.size))
          have HN3 := Lib.hid (Blk.new w2 #[.slice p2 n2 c2] 27)
          have hrow2 : Row .i64 ((w2.alloc (.cells #[.slice p2 n2 c2] 27)).alloc (.cells #[.int .i64 x, .int .i64 a] 2)).drew (.slice (some ⟨w2.heap.size + 1, 0, none⟩) 2 2) [x, a] := by
            have h := Row.two (w2.alloc (.cells #[.slice p2 n2 c2] 27)) 2 x a 2 (Nat.le_refl _)
            rw [show (w2.alloc (.cells #[.slice p2 n2 c2] 27)).heap.size = w2.heap.size + 1 by simp] at h
            exact h
          have HRW2 := Lib.hid hrow2
          have HBW3 : Hid (Below (w2.alloc (.cells #[.slice p2 n2 c2] 27)).heap.size (w2.alloc (.cells #[.slice p2 n2 c2] 27)) ((w2.alloc (.cells #[.slice p2 n2 c2] 27)).alloc (.cells #[.int .i64 x, .int .i64 a] 2)).drew) := ((Below.refl _ (w2.alloc (.cells #[.slice p2 n2 c2] 27))).alloc (Nat.le_refl _) _).drew
          clear hp3 hm3 g0 g1 lput hrow2
          refine wp_region_held_drew (S := fun w' => w'.cell? ⟨wr.heap.size, 0, none⟩ = some (.int .i64 E) ∧ w'.cell? ⟨wr.heap.size, 1, none⟩ = some (.int .i64 C) ∧ w'.cell? ⟨wr.heap.size, 2, none⟩ = some (.int .i64 a) ∧ w'.cell? ⟨w.heap.size + 1 + 1 + 1, E * 8 + C, none⟩ = some (.int .i64 x)) (by kernel_rfl) hS1 (fun hS0 => ?_)
          refine wpAnyH_take (i := 0) (v := ?_) rfl (by kernel_rfl) (by kernel_rfl) (by kernel_rfl) (fun _ _ _ h => h) (Or.inl ⟨by kernel_rfl, ?_⟩) (by first | assumption | trivial) ?_
          rotate_left
          · intro w hSw
            try dsimp only at hSw
            first | (go_simp; done) | (go_simp; with_reducible rfl)
          try simp only [Act.put, List.getElem_toArray, List.getElem_cons_succ, List.getElem_cons_zero, List.setIfInBounds_toArray, List.set_cons_zero, List.set_cons_succ]
          refine wpAnyH_take (i := 1) (v := ?_) rfl (by kernel_rfl) (by kernel_rfl) (by kernel_rfl) (fun _ _ _ h => h) (Or.inl ⟨by kernel_rfl, ?_⟩) (by first | assumption | trivial) ?_
          rotate_left
          · intro w hSw
            try dsimp only at hSw
            first | (go_simp; done) | (go_simp; with_reducible rfl)
          try simp only [Act.put, List.getElem_toArray, List.getElem_cons_succ, List.getElem_cons_zero, List.setIfInBounds_toArray, List.set_cons_zero, List.set_cons_succ]
          refine wpAnyH_take (i := 2) (v := ?_) rfl (by kernel_rfl) (by kernel_rfl) (by kernel_rfl) (fun _ _ _ h => h) (Or.inl ⟨by kernel_rfl, ?_⟩) (by first | assumption | trivial) ?_
          rotate_left
          · intro w hSw
            try dsimp only at hSw
            first | (go_simp; done) | (go_simp; with_reducible rfl)
          try simp only [Act.put, List.getElem_toArray, List.getElem_cons_succ, List.getElem_cons_zero, List.setIfInBounds_toArray, List.set_cons_zero, List.set_cons_succ]
          refine wpAnyH_take (i := 3) (v := ?_) rfl (by kernel_rfl) (by kernel_rfl) (by kernel_rfl) (fun _ _ _ h => h) (Or.inl ⟨by kernel_rfl, ?_⟩) (by first | assumption | trivial) ?_
          rotate_left
          · intro w hSw
            try dsimp only at hSw
            first | (go_simp; done) | (go_simp; with_reducible rfl)
          try simp only [Act.put, List.getElem_toArray, List.getElem_cons_succ, List.getElem_cons_zero, List.setIfInBounds_toArray, List.set_cons_zero, List.set_cons_succ]
          refine wpAnyH_take (i := 4) (v := ?_) rfl (by kernel_rfl) (by kernel_rfl) (by kernel_rfl) (fun _ _ _ h => h) (Or.inl ⟨by kernel_rfl, ?_⟩) (by first | assumption | trivial) ?_
          rotate_left
          · intro w hSw
            try dsimp only at hSw
            first | (go_simp; done) | (go_simp; with_reducible rfl)
          try simp only [Act.put, List.getElem_toArray, List.getElem_cons_succ, List.getElem_cons_zero, List.setIfInBounds_toArray, List.set_cons_zero, List.set_cons_succ]
          refine wpAnyH_take (i := 5) (v := ?_) rfl (by kernel_rfl) (by kernel_rfl) (by kernel_rfl) (fun _ _ _ h => h) (Or.inl ⟨by kernel_rfl, ?_⟩) (by first | assumption | trivial) ?_
          rotate_left
          · intro w hSw
            try dsimp only at hSw
            first | (go_simp; done) | (go_simp; with_reducible rfl)
          try simp only [Act.put, List.getElem_toArray, List.getElem_cons_succ, List.getElem_cons_zero, List.setIfInBounds_toArray, List.set_cons_zero, List.set_cons_succ]
          refine wpAnyH_take (i := 6) (v := ?_) rfl (by kernel_rfl) (by kernel_rfl) (by kernel_rfl) (fun _ _ _ h => h) (Or.inl ⟨by kernel_rfl, ?_⟩) (by first | assumption | trivial) ?_
          rotate_left
          · intro w hSw
            try dsimp only at hSw
            first | (go_simp; done) | (go_simp; with_reducible rfl)
          try simp only [Act.put, List.getElem_toArray, List.getElem_cons_succ, List.getElem_cons_zero, List.setIfInBounds_toArray, List.set_cons_zero, List.set_cons_succ]
          refine wpAnyH_take (i := 7) (v := ?_) rfl (by kernel_rfl) (by kernel_rfl) (by kernel_rfl) (fun _ _ _ h => h) (Or.inl ⟨by kernel_rfl, ?_⟩) (by first | assumption | trivial) ?_
          rotate_left
          · intro w hSw
            try dsimp only at hSw
            first | (go_simp; done) | (go_simp; with_reducible rfl)
          try simp only [Act.put, List.getElem_toArray, List.getElem_cons_succ, List.getElem_cons_zero, List.setIfInBounds_toArray, List.set_cons_zero, List.set_cons_succ]
          refine wpAnyH_take (i := 8) (v := ?_) rfl (by kernel_rfl) (by kernel_rfl) (by kernel_rfl) (fun _ _ _ h => h) (Or.inl ⟨by kernel_rfl, ?_⟩) (by first | assumption | trivial) ?_
          rotate_left
          · intro w hSw
            try dsimp only at hSw
            first | (go_simp; done) | (go_simp; with_reducible rfl)
          try simp only [Act.put, List.getElem_toArray, List.getElem_cons_succ, List.getElem_cons_zero, List.setIfInBounds_toArray, List.set_cons_zero, List.set_cons_succ]
          refine wpAnyH_ready (rs := [9]) (by kernel_rfl) (by simp) ?_
          refine AllReadyH.cons rfl (fun K hK => ?_) AllReadyH.nil
          go_simp
          refine hK.out _ _ (HS.out ((w2.alloc (.cells #[.slice p2 n2 c2] 27)).alloc (.cells #[.int .i64 x, .int .i64 a] 2)).drew HBW3.out) (fun hS => ?_)
          clear hK K
          try simp only [Act.put, List.getElem_toArray, List.getElem_cons_succ, List.getElem_cons_zero, List.setIfInBounds_toArray, List.set_cons_zero, List.set_cons_succ]
          refine wpAnyH_ready (rs := [10]) (by kernel_rfl) (by simp) ?_
          refine AllReadyH.cons rfl (fun K hK => ?_) AllReadyH.nil
          go_simp
          go_at_call 12
          refine (HRS.out _ _ HRW2.out).mono ?_
          rintro y w4 ⟨rfl, hb4⟩
          have HB4 := Lib.hid (HBW3.out.trans (hb4.mono (by simp)))
          clear hb4
          try go_wp2_with fail
          refine hK.out _ _ (HS.out w4 HB4.out) (fun hS => ?_)
          clear hK K
          try simp only [Act.put, List.getElem_toArray, List.getElem_cons_succ, List.getElem_cons_zero, List.setIfInBounds_toArray, List.set_cons_zero, List.set_cons_succ]
          refine wpAnyH_take (i := 11) (v := ?_) rfl (by kernel_rfl) (by kernel_rfl) (by kernel_rfl) (fun _ _ _ h => h) (Or.inl ⟨by kernel_rfl, ?_⟩) (by first | assumption | trivial) ?_
          rotate_left
          · intro w hSw
            try dsimp only at hSw
            first | (go_simp; done) | (go_simp; with_reducible rfl)
          try simp only [Act.put, List.getElem_toArray, List.getElem_cons_succ, List.getElem_cons_zero, List.setIfInBounds_toArray, List.set_cons_zero, List.set_cons_succ]
          refine wpAnyH_take (i := 12) (v := ?_) rfl (by kernel_rfl) (by kernel_rfl) (by kernel_rfl) (fun _ _ _ h => h) (Or.inl ⟨by kernel_rfl, ?_⟩) (by first | assumption | trivial) ?_
          rotate_left
          · intro w hSw
            try dsimp only at hSw
            first | (go_simp; done) | (go_simp; with_reducible rfl)
          try simp only [Act.put, List.getElem_toArray, List.getElem_cons_succ, List.getElem_cons_zero, List.setIfInBounds_toArray, List.set_cons_zero, List.set_cons_succ]
          refine wpAnyH_take (i := 13) (v := ?_) rfl (by kernel_rfl) (by kernel_rfl) (by kernel_rfl) (fun _ _ _ h => h) (Or.inl ⟨by kernel_rfl, ?_⟩) (by first | assumption | trivial) ?_
          rotate_left
          · intro w hSw
            try dsimp only at hSw
            first | (go_simp; done) | (go_simp; with_reducible rfl)
          try simp only [Act.put, List.getElem_toArray, List.getElem_cons_succ, List.getElem_cons_zero, List.setIfInBounds_toArray, List.set_cons_zero, List.set_cons_succ]
          refine wpAnyH_take (i := 14) (v := ?_) rfl (by kernel_rfl) (by kernel_rfl) (by kernel_rfl) (fun _ _ _ h => h) (Or.inl ⟨by kernel_rfl, ?_⟩) (by first | assumption | trivial) ?_
          rotate_left
          · intro w hSw
            try dsimp only at hSw
            first | (go_simp; done) | (go_simp; with_reducible rfl)
          try simp only [Act.put, List.getElem_toArray, List.getElem_cons_succ, List.getElem_cons_zero, List.setIfInBounds_toArray, List.set_cons_zero, List.set_cons_succ]
          refine wpAnyH_take (i := 15) (v := ?_) rfl (by kernel_rfl) (by kernel_rfl) (by kernel_rfl) (fun _ _ _ h => h) (Or.inl ⟨by kernel_rfl, ?_⟩) (by first | assumption | trivial) ?_
          rotate_left
          · intro w hSw
            try dsimp only at hSw
            first | (go_simp; done) | (go_simp; with_reducible rfl)
          try simp only [Act.put, List.getElem_toArray, List.getElem_cons_succ, List.getElem_cons_zero, List.setIfInBounds_toArray, List.set_cons_zero, List.set_cons_succ]
          refine wpAnyH_done (by kernel_rfl) ?_ _
          have HB5 := Lib.hid (HB3.out.trans (HB4.out.mono (by have := HB3.out.size; omega)))
          have hnx := HN3.out.below HB4.out HN3.out.lt
          have HNX4 := Lib.hid hnx
          have hv4 := HBV.out.below HB5.out HBV.out.lt
          have hm4 := HBM.out.below HB5.out HBM.out.lt
          have z04 := HZ0.out.below HB5.out HZ0.out.lt
          have z14 := HZ1.out.below HB5.out HZ1.out.lt
          have HV4 := Lib.hid hv4
          have HM4 := Lib.hid hm4
          have HZ04 := Lib.hid z04
          have HZ14 := Lib.hid z14
          have lw := HBW.out.size
          have lmb := HBM.out.lt
          have lw4 := HB5.out.size
          have nx0 : w4.cell? ⟨w2.heap.size, 0, none⟩ = some (.slice p2 n2 c2) := hnx.cell 0
          have vv0 : w4.cell? ⟨w.heap.size + 1 + 1, 0, none⟩ = some (.slice p1 n1 c1) := hv4.cell 0
          have fv0 := hv4.free 0
          have lv4 := hv4.lt
          have HMX : Hid (Blk (w4.setCell ⟨w.heap.size + 1 + 1, 0, none⟩ (.slice p2 n2 c2)) (w.heap.size + 1 + 1 + 1) (mCells M) 30) := hm4.setOther (by simp) _
          have hch : Chg (w.heap.size + 1 + 1) w4 (w4.setCell ⟨w.heap.size + 1 + 1, 0, none⟩ (.slice p2 n2 c2)) := (Chg.refl _ _).set 0 _
          have ho4 : OwnP (w4.setCell ⟨w.heap.size + 1 + 1, 0, none⟩ (.slice p2 n2 c2)) (w.heap.size + 1 + 1 + 1 + 1) 49 (.slice p2 n2 c2) (posOf M) := (((HO2.out.later (oneB w2 (.cells #[.slice p2 n2 c2] 27))).later HB4.out).less (by simp; omega)).chg hch (by omega)
          have HN6 : Hid (PlayRel w M (w4.setCell ⟨w.heap.size + 1 + 1, 0, none⟩ (.slice p2 n2 c2))) := ⟨p2, n2, c2, hv4.set 0 _, ho4, HMX.out, z04.setOther (by simp <;> omega) _, z14.setOther (by simp <;> omega) _, HM.out, HNX.out, (HBW.out.trans (HB5.out.mono HBW.out.size)).setCell (p := ⟨w.heap.size + 1 + 1, 0, none⟩) (by show w.heap.size ≤ w.heap.size + 1 + 1; omega) _⟩
          have HSA := Lib.hid (same_any (w4.setCell ⟨w.heap.size + 1 + 1, 0, none⟩ (.slice p2 n2 c2)) (.slice p2 n2 c2) M HM.out ho4.row)
          unfold vecV at HSA
          clear hnx hv4 hm4 z04 z14 hch ho4
          go_wp2_with (with_reducible refine stop_load 30 (.tmp 6) rfl ?_)
          refine wpList_load_blk (by kernel_rfl) 30 (.tmp 6) rfl (w.heap.size + 1 + 1 + 1) rfl 30 (mCells M) (.array 8 28) HMX.out Try.underlying30 rfl HIN.out ?_
          go_wp2_with fail
          refine HSA.out.mono ?_
          rintro y w7 ⟨rfl, hb7⟩
          have HN : Hid (PlayRel w ((ps.take (k + 1)).foldl stepM (List.replicate 64 0)) w7) := by
            rw [HST.out, HSM.out]
            exact HN6.out.kept hb7
          clear hb7
          go_wp2_with fail
          go_roundw
          case rel => exact ⟨k + 1, by omega, by go_num, HN⟩
          case measure => simp [intOf]; omega
    · have hkn : (n : Int) ≤ (k : Int) := by omega
      have hall : (ps.take k).foldl stepM (List.replicate 64 0) = playM ps := by unfold playM; rw [List.take_of_length_le (by rw [HNL.out]; omega)]
      rw [hall] at HRV HBM HM HM64
      have HIN := Lib.hid (mInfo (mCells (playM ps)) (by rw [mCells_size]; exact HM.out))
      have HIN2 : Hid ((Try.prog.info? 30).map (·.size) = some ((playM ps).map (Value.int .i64)).length) := by show _ = _; rw [mInfo (mCells (playM ps)) (by rw [mCells_size]; exact HM.out), mCells_size, List.length_map]
      clear hbv hrv hbm hz0 hz1 hM hM64 hbw HK hall
      have q0 : wr.cell? ⟨w.heap.size, 0, none⟩ = some (.slice none 0 0) := HZ0.out.cell 0
      have fq0 := HZ0.out.free 0
      have lq0 := HZ0.out.lt
      have hrange : wr.rangeAt (w.heap.size + 1 + 1 + 1) 0 ((playM ps).map (Value.int .i64)) := HBM.out.range
      have hS1 : wr.drew.cell? ⟨w.heap.size + 1 + 1, 0, none⟩ = some (.slice p1 n1 c1) ∧ wr.drew.rangeAt (w.heap.size + 1 + 1 + 1) 0 ((playM ps).map (Value.int .i64)) := ⟨HBV.out.cell 0, hrange⟩
      have hV1 : Blk (wr.setCell ⟨w.heap.size, 0, none⟩ (.slice p1 n1 c1)).drew (w.heap.size + 1 + 1) #[.slice p1 n1 c1] 27 := (HBV.out.setOther (by simp <;> omega) _).drew
      have hM1 : Blk (wr.setCell ⟨w.heap.size, 0, none⟩ (.slice p1 n1 c1)).drew (w.heap.size + 1 + 1 + 1) (mCells (playM ps)) 30 := (HBM.out.setOther (by simp <;> omega) _).drew
      have hZ1 : Blk (wr.setCell ⟨w.heap.size, 0, none⟩ (.slice p1 n1 c1)).drew (w.heap.size + 1) (mCells (List.replicate 64 0)) 30 := (HZ1.out.setOther (by simp) _).drew
      have hR1 : Blk (wr.setCell ⟨w.heap.size, 0, none⟩ (.slice p1 n1 c1)).drew w.heap.size #[.slice p1 n1 c1] 27 := (HZ0.out.set 0 (.slice p1 n1 c1)).drew
      have hth : (wr.setCell ⟨w.heap.size, 0, none⟩ (.slice p1 n1 c1)).drew.there (w.heap.size + 1) 0 (mCells (playM ps)).size := by
        have h := hZ1.there
        rw [mCells_size, List.length_replicate] at h
        rw [mCells_size, HM.out]; exact h
      have hS2 := And.intro (hV1.cell 0) hM1.range
      have HV1 := Lib.hid hV1
      have HM1 := Lib.hid hM1
      have HR1 := Lib.hid hR1
      have HTH := Lib.hid hth
      have HS2 := Lib.hid hS2
      clear hV1 hM1 hZ1 hR1 hth hS2 hrange
      go_wp2_with fail
      refine wp_region_held_drew (S := fun w' => w'.cell? ⟨w.heap.size + 1 + 1, 0, none⟩ = some (.slice p1 n1 c1) ∧ w'.rangeAt (w.heap.size + 1 + 1 + 1) 0 ((playM ps).map (Value.int .i64))) (by kernel_rfl) hS1 (fun hS0 => ?_)
      refine wpAnyH_take (i := 0) (v := ?_) rfl (by kernel_rfl) (by kernel_rfl) (by kernel_rfl) (fun _ _ _ h => h) (Or.inl ⟨by kernel_rfl, ?_⟩) (by first | assumption | trivial) ?_
      rotate_left
      · intro w hSw
        try dsimp only at hSw
        first | (go_simp; done) | (go_simp; with_reducible rfl)
      try simp only [Act.put, List.getElem_toArray, List.getElem_cons_succ, List.getElem_cons_zero, List.setIfInBounds_toArray, List.set_cons_zero, List.set_cons_succ]
      refine wpAnyH_take (i := 1) (v := .agg (mCells (playM ps))) rfl (by kernel_rfl) (by kernel_rfl) (by kernel_rfl) (fun _ _ _ h => h) (yieldsIf_load_mid (by kernel_rfl) 30 (.tmp 6) rfl (w.heap.size + 1 + 1 + 1) 0 rfl ((playM ps).map (Value.int .i64)) (.array 8 28) (fun _ h => h.2) Try.underlying30 rfl HIN2.out) (by first | assumption | trivial) ?_
      try simp only [Act.put, List.getElem_toArray, List.getElem_cons_succ, List.getElem_cons_zero, List.setIfInBounds_toArray, List.set_cons_zero, List.set_cons_succ]
      refine wpAnyH_ready (rs := [2]) (by kernel_rfl) (by simp) ?_
      refine AllReadyH.cons rfl (fun K hK => ?_) AllReadyH.nil
      go_simp
      refine hK.out _ _ HS2.out (fun hS => ?_)
      clear hK K
      try simp only [Act.put, List.getElem_toArray, List.getElem_cons_succ, List.getElem_cons_zero, List.setIfInBounds_toArray, List.set_cons_zero, List.set_cons_succ]
      refine wpAnyH_ready (rs := [3]) (by kernel_rfl) (by simp) ?_
      refine AllReadyH.cons rfl (fun K hK => ?_) AllReadyH.nil
      rw [if_pos (by kernel_rfl)]
      refine wp_store_mid 30 (.tmp 3) (.tmp 95) rfl (w.heap.size + 1) 0 (mCells (playM ps)) rfl rfl HTH.out HIN.out (mCells_one (playM ps)) ?_
      have hch : Chg (w.heap.size + 1) (wr.setCell ⟨w.heap.size, 0, none⟩ (.slice p1 n1 c1)).drew ((wr.setCell ⟨w.heap.size, 0, none⟩ (.slice p1 n1 c1)).drew.setCells (w.heap.size + 1) 0 (mCells (playM ps)).toList) := Chg.setCells _ _ _ _ _ (Chg.refl _ _)
      have hv3 := HV1.out.chg hch (by omega)
      have hm3 := HM1.out.chg hch (by omega)
      have hr3 := HR1.out.chg hch (by omega)
      have hS3 := And.intro (hv3.cell 0) hm3.range
      have HCH := Lib.hid hch
      have HR3 := Lib.hid hr3
      clear hch hv3 hm3 hr3
      refine hK.out _ _ hS3 (fun hS => ?_)
      clear hK K
      try simp only [Act.put, List.getElem_toArray, List.getElem_cons_succ, List.getElem_cons_zero, List.setIfInBounds_toArray, List.set_cons_zero, List.set_cons_succ]
      refine wpAnyH_take (i := 4) (v := ?_) rfl (by kernel_rfl) (by kernel_rfl) (by kernel_rfl) (fun _ _ _ h => h) (Or.inl ⟨by kernel_rfl, ?_⟩) (by first | assumption | trivial) ?_
      rotate_left
      · intro w hSw
        try dsimp only at hSw
        first | (go_simp; done) | (go_simp; with_reducible rfl)
      try simp only [Act.put, List.getElem_toArray, List.getElem_cons_succ, List.getElem_cons_zero, List.setIfInBounds_toArray, List.set_cons_zero, List.set_cons_succ]
      refine wpAnyH_done (by kernel_rfl) ?_ _
      go_wp2_with fail
      have h27 := run_loadVar_mid (P := Try.prog) ((wr.setCell ⟨w.heap.size, 0, none⟩ (.slice p1 n1 c1)).drew.setCells (w.heap.size + 1) 0 (mCells (playM ps)).toList) w.heap.size 0 27 [.slice p1 n1 c1] _ HR3.out.range Try.underlying27 rfl (by kernel_rfl)
      have h30 := run_loadVar_mid (P := Try.prog) ((wr.setCell ⟨w.heap.size, 0, none⟩ (.slice p1 n1 c1)).drew.setCells (w.heap.size + 1) 0 (mCells (playM ps)).toList) (w.heap.size + 1) 0 30 (mCells (playM ps)).toList (.array 8 28) (World.rangeAt_setCells_same _ _ _ _ (by rw [Array.length_toList]; exact HTH.out)) Try.underlying30 rfl (by rw [HIN.out]; simp)
      rw [Array.toArray_toList] at h30
      have hown : OwnP ((wr.setCell ⟨w.heap.size, 0, none⟩ (.slice p1 n1 c1)).drew.setCells (w.heap.size + 1) 0 (mCells (playM ps)).toList) (w.heap.size + 1 + 1 + 1 + 1) 49 (.slice p1 n1 c1) (posOf (playM ps)) := (show OwnP (wr.setCell ⟨w.heap.size, 0, none⟩ (.slice p1 n1 c1)).drew _ _ _ _ from HRV.out.setLow (by simp <;> omega) _).chg HCH.out (by omega)
      have hbl : Below w.heap.size w ((wr.setCell ⟨w.heap.size, 0, none⟩ (.slice p1 n1 c1)).drew.setCells (w.heap.size + 1) 0 (mCells (playM ps)).toList) := (HBW.out.setCell (p := ⟨w.heap.size, 0, none⟩) (Nat.le_refl _) _).drew.trans (HCH.out.below (by omega) (by have := HBW.out.size; simp; omega))
      refine bodyPost_ret (v := .tuple #[.agg #[.slice p1 n1 c1], .agg (mCells (playM ps)), .bool true]) (by simp [results, Try.results9, asAddr, h27, h30]) rfl ⟨_, rfl, hown.row, hbl⟩
end Go.Proofs.Ytaooiejgigicoaa
