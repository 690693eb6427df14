/- ElimZero: the walk. -/
import Derived.Test.YtogfhijfpobhhaaElimZ
import Derived.Test.YtogfhijfpobhhaaKeep15
namespace Go.Proofs.Ytogfhijfpobhhaa
open Go.RowKit
theorem Bz.put' {gz K ni' ci' : Nat} {m : Int} {x : Bk} {w w' : World} {p' : Option Addr} {it : Itm} (h : Bz gz m K x w) (hr : TRow encI w' (.slice p' ni' ci') (putX x.me x.xs it)) (hn : ni' = (putX x.me x.xs it).length) (hb : Below w.heap.size w w') (hg : gz < w.heap.size) (hK : K + 1 ≤ 2000) (h2 : it.s ≤ 2 ∧ it.b ≤ 2) (he : putE x.me it = 0)
    (ho : ∀ k, (Value.slice p' ni' ci').ownBlock = some k → (Value.slice x.p x.n x.c).ownBlock = some k ∨ w.heap.size ≤ k) : Bz gz m (K + 1) ⟨x.me, p', ni', ci', x.q, x.a, x.b, putX x.me x.xs it⟩ w' := by
  have e := h.me
  subst e
  exact h.put hr hn hb hg hK h2 he ho
theorem zr_alike {gz K : Nat} {cur : Int} {bs : List Bk} {w : World} (h : Zr gz 3 K bs w) (he : evenB cur bs = true) {i j : Nat} (hi : i < bs.length) (hj : j < bs.length) (hne : i ≠ j) : alikeB bs[i].me bs[j].me cur bs[i].xs bs[j].xs = true ∧ amtS (soldL bs[i].me bs[j].me cur bs[i].xs) = amtS (soldL bs[i].me bs[j].me cur bs[j].xs) := by
  obtain ⟨x, y, z, rfl, hx, hy, hz⟩ := h.three
  obtain ⟨h1, h2, h3⟩ := even_pairs he
  have e1 := pair_alike h1 (by rw [hy.me, hx.me]; decide)
  have e2 := pair_alike h2 (by rw [hz.me, hx.me]; decide)
  have e3 := pair_alike h3 (by rw [hz.me, hy.me]; decide)
  have hi3 : i = 0 ∨ i = 1 ∨ i = 2 := by simp only [List.length_cons, List.length_nil] at hi; omega
  have hj3 : j = 0 ∨ j = 1 ∨ j = 2 := by simp only [List.length_cons, List.length_nil] at hj; omega
  rcases hi3 with rfl | rfl | rfl <;> rcases hj3 with rfl | rfl | rfl <;> first
    | exact absurd rfl hne
    | exact ⟨e1.1, alike_amt e1.1⟩
    | exact ⟨e1.2, alike_amt e1.2⟩
    | exact ⟨e2.1, alike_amt e2.1⟩
    | exact ⟨e2.2, alike_amt e2.2⟩
    | exact ⟨e3.1, alike_amt e3.1⟩
    | exact ⟨e3.2, alike_amt e3.2⟩
def st5 (w : World) (g : Nat) (a b c d e : Value) : World := ((((w.setCell ⟨g, 0, none⟩ a).setCell ⟨g, 1, none⟩ b).setCell ⟨g, 2, none⟩ c).setCell ⟨g, 3, none⟩ d).setCell ⟨g, 4, none⟩ e
theorem st5_blk {w : World} {g : Nat} {cs : Array Value} {t : TypeId} (h : Blk w g cs t) (hs : cs.size = 5) (a b c d e : Value) : Blk (st5 w g a b c d e) g #[a, b, c, d, e] t := blk_put_all h #[a, b, c, d, e] hs
theorem st5_below {B g : Nat} {w w' : World} (h : Below B w w') (hg : B ≤ g) (a b c d e : Value) : Below B w (st5 w' g a b c d e) := below_put hg [a, b, c, d, e] 0 _ _ h
set_option linter.unusedSimpArgs false in
set_option maxHeartbeats 8000000 in
set_option maxRecDepth 100000 in
theorem ezero_walk (va : Value) (la : List Itm) (cur odd : Int) (w : World) (ha : TRow encI w va la) (_ : -9223372036854775808 ≤ cur ∧ cur ≤ 9223372036854775807) (_ : -9223372036854775808 ≤ odd ∧ odd ≤ 9223372036854775807) :
    Calls Try.prog 4 #[va, .int .i64 cur, .int .i64 odd] w fun e w' => e = .returned (.bool true) ∧ Below w.heap.size w w' := by
  obtain ⟨p1, c1, rfl⟩ := ha.shape
  have HK := Lib.hid (fun W => holds15_any W)
  generalize hl : la.length = n1 at *
  by_cases hl1 : 30 < n1
  · have hlI : (30 : Int) < (n1 : Int) := by omega
    clear ha hl1
    go_enter Try.func4, Try.ntmps4
    go_wp2_with fail
    refine (HK.out w).mono ?_
    rintro y w1 ⟨rfl, hb1⟩
    have HB1 := Lib.hid hb1
    clear hb1
    go_wp2_with fail
    go_ret
    exact ⟨rfl, HB1.out⟩
  have hlI : (n1 : Int) ≤ (30 : Int) := by omega
  by_cases hc : cur < 0
  · clear ha
    go_enter Try.func4, Try.ntmps4
    go_wp2_with fail
    refine (HK.out w).mono ?_
    rintro y w1 ⟨rfl, hb1⟩
    have HB1 := Lib.hid hb1
    clear hb1
    go_wp2_with fail
    go_ret
    exact ⟨rfl, HB1.out⟩
  by_cases hc7 : 7 < cur
  · clear ha
    have hc0 : ¬ cur < 0 := by omega
    go_enter Try.func4, Try.ntmps4
    go_wp2_with fail
    refine (HK.out w).mono ?_
    rintro y w1 ⟨rfl, hb1⟩
    have HB1 := Lib.hid hb1
    clear hb1
    go_wp2_with fail
    go_ret
    exact ⟨rfl, HB1.out⟩
  have hc8 : cur ≤ 7 := by omega
  have hc0 : 0 ≤ cur := by omega
  have HR := Lib.hid ha
  have HL := Lib.hid hl
  have HINF : Hid ((Try.prog.info? 26).map (·.size) = some (#[.int .i64 0, .slice none 0 0, .slice none 0 0] : Array Value).size) := by show _ = _; kernel_rfl
  clear ha hl
  go_enter Try.func4, Try.ntmps4
  go_wp2_with fail
  refine (HK.out w).mono ?_
  rintro y w1 ⟨rfl, hb1⟩
  have HB1 := Lib.hid hb1
  have HR1 := Lib.hid (HR.out.kept hb1)
  clear hb1 HK HR
  go_upto_region 6 with fail
  have HRA : Hid (Zr w1.heap.size 0 0 [bk0, bk0, bk0] (w1.alloc (.cells #[.int .i64 0, .slice none 0 0, .slice none 0 0, .int .i64 0, .slice none 0 0, .slice none 0 0, .int .i64 0, .slice none 0 0, .slice none 0 0] 43)) ∧ Below w1.heap.size w1 (w1.alloc (.cells #[.int .i64 0, .slice none 0 0, .slice none 0 0, .int .i64 0, .slice none 0 0, .slice none 0 0, .int .i64 0, .slice none 0 0, .slice none 0 0] 43))) := ⟨zr_start, oneB w1 _⟩
  generalize w1.alloc (.cells #[.int .i64 0, .slice none 0 0, .slice none 0 0, .int .i64 0, .slice none 0 0, .slice none 0 0, .int .i64 0, .slice none 0 0, .slice none 0 0] 43) = W1 at *
  have HGZ : Hid (w1.heap.size ≤ w1.heap.size) := Nat.le_refl _
  generalize decide (30 < (n1 : Int)) = D1 at *
  generalize decide (cur < 0) = D2 at *
  generalize decide (7 < cur) = D3 at *
  go_wp2_with fail
  go_loopw [36] (fun i wr => ∃ (k : Nat) (bs : List Bk), k ≤ 3 ∧ i = .int .i64 k ∧ Hid (Zr w1.heap.size k 0 bs wr ∧ Below w1.heap.size w1 wr)) (fun i _ => 3 - (intOf i).toNat)
  case atStart => exact ⟨0, [bk0, bk0, bk0], by omega, rfl, HRA⟩
  case round =>
    obtain ⟨k, bs, hk, rfl, HZ⟩ := hrel
    clear HRA
    by_cases hlt : k < 3
    · skip
      have hltI : (k : Int) < 3 := by omega
      have HNB := Lib.hid (newB_any wr (k : Int) (by omega))
      unfold bookV at HNB
      go_wp2_with fail
      refine HNB.out.mono ?_
      rintro y w2 ⟨rfl, hb2⟩
      have HZ2 : Hid (Zr w1.heap.size k 0 bs w2 ∧ Below w1.heap.size w1 w2) := ⟨HZ.out.1.kept hb2, HZ.out.2.trans (hb2.mono HZ.out.2.size)⟩
      have HTH := Lib.hid (HZ2.out.1.there (i := k) (by omega))
      have HNX : Hid (Zr w1.heap.size (k + 1) 0 (bs.set k ⟨(k : Int), none, 0, 0, none, 0, 0, []⟩) (w2.setCells w1.heap.size (k * 3) (#[.int .i64 k, .slice none 0 0, .slice none 0 0] : Array Value).toList) ∧ Below w1.heap.size w1 (w2.setCells w1.heap.size (k * 3) (#[.int .i64 k, .slice none 0 0, .slice none 0 0] : Array Value).toList)) := ⟨HZ2.out.1.put (by omega) (Bz.new_ w1.heap.size k w2) (Nat.le_refl _) (fun j hj => by omega), below_put HGZ.out _ _ _ _ HZ2.out.2⟩
      clear hb2 HZ HZ2 HNB
      go_wp2_with (with_reducible refine stop_storeT 26 (.tmp 45) (.tmp 43) rfl ?_)
      refine wpList_store_mid rfl 26 (.tmp 45) (.tmp 43) rfl w1.heap.size (k * 3) #[.int .i64 k, .slice none 0 0, .slice none 0 0] rfl rfl HTH.out HINF.out (all_oneCell_toArray (encB.one ⟨(k : Int), none, 0, 0, none, 0, 0, []⟩)) ?_
      generalize World.setCells w2 w1.heap.size (k * 3) _ = W7 at *
      clear HTH
      go_wp2_with fail
      go_roundw
      case rel => exact ⟨k + 1, _, by omega, by go_num, HNX⟩
      case measure => simp [intOf]; omega
    · have hle : (3 : Int) ≤ (k : Int) := by omega
      have hke : k = 3 := by omega
      have HRB : Hid (Zr w1.heap.size 3 (3 * 0) bs wr ∧ Below w1.heap.size w1 wr) := by
        show _ ∧ _
        have h := HZ.out
        rw [hke] at h
        exact h
      clear HZ hk hlt hke
      go_wp2_with fail
      go_loopw [49] (fun i wr => ∃ (k : Nat) (bs : List Bk), k ≤ n1 ∧ i = .int .i64 k ∧ Hid (Zr w1.heap.size 3 (3 * k) bs wr ∧ Below w1.heap.size w1 wr)) (fun i _ => n1 - (intOf i).toNat)
      case atStart => exact ⟨0, bs, by omega, rfl, HRB⟩
      case round =>
        obtain ⟨k, bs, hk, rfl, HZ⟩ := hrel
        clear HRB
        by_cases hlt : k < n1
        · skip
          have hkl : k < la.length := by rw [HL.out]; exact hlt
          have hltI : (k : Int) < (n1 : Int) := by omega
          obtain ⟨b, o, rfl, hbl, hcs⟩ := (HR1.out.kept HZ.out.2).at_ k hkl
          generalize la[k] = x at *
          have c0 : wr.cell? ⟨b, o + k * 8, none⟩ = some (.int .i64 x.s) := hcs 0 (by decide)
          have c1 : wr.cell? ⟨b, o + k * 8 + 1, none⟩ = some (.int .i64 x.n) := hcs 1 (by decide)
          have c2 : wr.cell? ⟨b, o + k * 8 + 2, none⟩ = some (.int .i64 x.b) := hcs 2 (by decide)
          have c3 : wr.cell? ⟨b, o + k * 8 + 3, none⟩ = some (.int .i64 x.c) := hcs 3 (by decide)
          have c4 : wr.cell? ⟨b, o + k * 8 + 4, none⟩ = some (.int .i64 x.a) := hcs 4 (by decide)
          have c5 : wr.cell? ⟨b, o + k * 8 + 5, none⟩ = some (.int .i64 x.r) := hcs 5 (by decide)
          have c6 : wr.cell? ⟨b, o + k * 8 + 6, none⟩ = some (.int .i64 x.t) := hcs 6 (by decide)
          have c7 : wr.cell? ⟨b, o + k * 8 + 7, none⟩ = some (.int .i64 x.y) := hcs 7 (by decide)
          have HX := Lib.hid (Blk.new wr #[.int .i64 x.s, .int .i64 x.n, .int .i64 x.b, .int .i64 x.c, .int .i64 x.a, .int .i64 x.r, .int .i64 x.t, .int .i64 x.y] 39)
          have HZA := Lib.hid (HZ.out.1.kept (oneB wr (.cells #[.int .i64 x.s, .int .i64 x.n, .int .i64 x.b, .int .i64 x.c, .int .i64 x.a, .int .i64 x.r, .int .i64 x.t, .int .i64 x.y] 39)))
          have HWA := Lib.hid (HZ.out.2.trans ((oneB wr (.cells #[.int .i64 x.s, .int .i64 x.n, .int .i64 x.b, .int .i64 x.c, .int .i64 x.a, .int .i64 x.r, .int .i64 x.t, .int .i64 x.y] 39)).mono HZ.out.2.size))
          have HGX : Hid (w1.heap.size < wr.heap.size) := HZ.out.1.lt
          clear hcs HZ
          by_cases hs : 2 < x.s
          · have HNX : Hid (Zr w1.heap.size 3 (3 * (k + 1)) bs (wr.alloc (.cells #[.int .i64 x.s, .int .i64 x.n, .int .i64 x.b, .int .i64 x.c, .int .i64 x.a, .int .i64 x.r, .int .i64 x.t, .int .i64 x.y] 39)) ∧ Below w1.heap.size w1 (wr.alloc (.cells #[.int .i64 x.s, .int .i64 x.n, .int .i64 x.b, .int .i64 x.c, .int .i64 x.a, .int .i64 x.r, .int .i64 x.t, .int .i64 x.y] 39))) := ⟨HZA.out.more (by omega), HWA.out⟩
            clear HX HZA HWA HGX
            go_wp2_with fail
            go_roundw
            case rel => exact ⟨k + 1, bs, by omega, by go_num, HNX⟩
            case measure => simp [intOf]; omega
          by_cases hbq : 2 < x.b
          · have HNX : Hid (Zr w1.heap.size 3 (3 * (k + 1)) bs (wr.alloc (.cells #[.int .i64 x.s, .int .i64 x.n, .int .i64 x.b, .int .i64 x.c, .int .i64 x.a, .int .i64 x.r, .int .i64 x.t, .int .i64 x.y] 39)) ∧ Below w1.heap.size w1 (wr.alloc (.cells #[.int .i64 x.s, .int .i64 x.n, .int .i64 x.b, .int .i64 x.c, .int .i64 x.a, .int .i64 x.r, .int .i64 x.t, .int .i64 x.y] 39))) := ⟨HZA.out.more (by omega), HWA.out⟩
            have hs' : x.s ≤ 2 := by omega
            clear HX HZA HWA HGX
            go_wp2_with fail
            go_roundw
            case rel => exact ⟨k + 1, bs, by omega, by go_num, HNX⟩
            case measure => simp [intOf]; omega
          have hs' : x.s ≤ 2 := by omega
          have hb' : x.b ≤ 2 := by omega
          go_upto_region 14 with fail
          have HRI : Hid (Zr w1.heap.size 3 (3 * k + 0) bs (wr.alloc (.cells #[.int .i64 x.s, .int .i64 x.n, .int .i64 x.b, .int .i64 x.c, .int .i64 x.a, .int .i64 x.r, .int .i64 x.t, .int .i64 x.y] 39)) ∧ Blk (wr.alloc (.cells #[.int .i64 x.s, .int .i64 x.n, .int .i64 x.b, .int .i64 x.c, .int .i64 x.a, .int .i64 x.r, .int .i64 x.t, .int .i64 x.y] 39)) wr.heap.size #[.int .i64 x.s, .int .i64 x.n, .int .i64 x.b, .int .i64 x.c, .int .i64 x.a, .int .i64 x.r, .int .i64 x.t, .int .i64 x.y] 39 ∧ Below w1.heap.size w1 (wr.alloc (.cells #[.int .i64 x.s, .int .i64 x.n, .int .i64 x.b, .int .i64 x.c, .int .i64 x.a, .int .i64 x.r, .int .i64 x.t, .int .i64 x.y] 39))) := ⟨HZA.out, HX.out, HWA.out⟩
          have HCX := HX
          generalize wr.alloc (.cells #[.int .i64 x.s, .int .i64 x.n, .int .i64 x.b, .int .i64 x.c, .int .i64 x.a, .int .i64 x.r, .int .i64 x.t, .int .i64 x.y] 39) = W4 at *
          generalize wr.heap.size = gx at *
          have d0 : W4.cell? ⟨gx, 0, none⟩ = some (.int .i64 x.s) := HX.out.cell 0
          have d2 : W4.cell? ⟨gx, 2, none⟩ = some (.int .i64 x.b) := HX.out.cell 2
          clear HX HCX HZA HWA c0 c1 c2 c3 c4 c5 c6 c7
          go_wp2_with fail
          go_loopw [63] (fun i wr => ∃ (j : Nat) (bs : List Bk), j ≤ 3 ∧ i = .int .i64 j ∧ Hid (Zr w1.heap.size 3 (3 * k + j) bs wr ∧ Blk wr gx #[.int .i64 x.s, .int .i64 x.n, .int .i64 x.b, .int .i64 x.c, .int .i64 x.a, .int .i64 x.r, .int .i64 x.t, .int .i64 x.y] 39 ∧ Below w1.heap.size w1 wr)) (fun i _ => 3 - (intOf i).toNat)
          case atStart => exact ⟨0, bs, by omega, rfl, HRI⟩
          case round =>
            obtain ⟨j, bs, hj, rfl, HZ⟩ := hrel
            clear HRI
            by_cases hj3 : j < 3
            · skip
              have hjl : j < bs.length := by rw [HZ.out.1.len]; exact hj3
              have hj3I : (j : Int) < 3 := by omega
              have xb : wr.cell? ⟨gx, 2, none⟩ = some (.int .i64 x.b) := HZ.out.2.1.cell 2
              by_cases hodd : (k : Int) = odd ∧ (j : Int) = x.b
              · have e1 : ((k : Int) == odd) = true := by simpa using hodd.1
                have e2 : ((j : Int) == x.b) = true := by simpa using hodd.2
                clear hodd
                have HNX : Hid (Zr w1.heap.size 3 (3 * k + (j + 1)) bs wr ∧ Blk wr gx #[.int .i64 x.s, .int .i64 x.n, .int .i64 x.b, .int .i64 x.c, .int .i64 x.a, .int .i64 x.r, .int .i64 x.t, .int .i64 x.y] 39 ∧ Below w1.heap.size w1 wr) := ⟨HZ.out.1.more (by omega), HZ.out.2⟩
                clear HZ
                go_wp2_with fail
                go_roundw
                case rel => exact ⟨j + 1, _, by omega, by go_num, HNX⟩
                case measure => simp [intOf]; omega
              · have HZ2 := Lib.hid HZ.out.1
                have HX2 := Lib.hid HZ.out.2.1
                have HW2 := Lib.hid HZ.out.2.2
                obtain ⟨b0, b1, b2⟩ := HZ2.out.cells hjl
                have HBZ := Lib.hid (HZ2.out.bz j hjl hj3)
                have HPUT := Lib.hid (fun W (h : Below wr.heap.size wr W) => put_any W bs[j].me bs[j].p bs[j].q bs[j].n bs[j].c bs[j].a bs[j].b x bs[j].xs (HBZ.out.inw.row.kept h) HBZ.out.inw.len HBZ.out.good.1 (by have := HBZ.out.len; have := HBZ.out.inw.len; omega))
                have HBP := Lib.hid (fun W p n c (he : putE bs[j].me x = 0) (hr : TRow encI W (.slice p n c) (putX bs[j].me bs[j].xs x)) (hn : n = (putX bs[j].me bs[j].xs x).length) (h : Below wr.heap.size wr W) (ho : ∀ k, (Value.slice p n c).ownBlock = some k → (Value.slice bs[j].p bs[j].n bs[j].c).ownBlock = some k ∨ wr.heap.size ≤ k) => (HBZ.out.put' hr hn h HZ2.out.lt (by omega) ⟨by omega, by omega⟩ he ho : Bz w1.heap.size j (3 * k + (j + 1)) _ W))
                have HOWN : Hid (∀ k, (Value.slice bs[j].p bs[j].n bs[j].c).ownBlock = some k → k < wr.heap.size) := HBZ.out.lt
                have c0 : wr.cell? ⟨gx, 0, none⟩ = some (.int .i64 x.s) := HX2.out.cell 0
                have c1 : wr.cell? ⟨gx, 1, none⟩ = some (.int .i64 x.n) := HX2.out.cell 1
                have c3 : wr.cell? ⟨gx, 3, none⟩ = some (.int .i64 x.c) := HX2.out.cell 3
                have c4 : wr.cell? ⟨gx, 4, none⟩ = some (.int .i64 x.a) := HX2.out.cell 4
                have c5 : wr.cell? ⟨gx, 5, none⟩ = some (.int .i64 x.r) := HX2.out.cell 5
                have c6 : wr.cell? ⟨gx, 6, none⟩ = some (.int .i64 x.t) := HX2.out.cell 6
                have c7 : wr.cell? ⟨gx, 7, none⟩ = some (.int .i64 x.y) := HX2.out.cell 7
                clear HZ HBZ
                unfold bookV Itm.v at HPUT
                generalize bs[j].me = mm at *
                generalize bs[j].p = pp at *
                generalize bs[j].n = nn at *
                generalize bs[j].c = cc at *
                generalize bs[j].q = qq at *
                generalize bs[j].a = aa at *
                generalize bs[j].b = bb at *
                generalize bs[j].xs = XS at *
                generalize putE mm x = ee at *
                have HODD := Lib.hid hodd
                clear hodd
                have hS1 : wr.drew.cell? ⟨gx, 0, none⟩ = some (.int .i64 x.s) ∧ wr.drew.cell? ⟨gx, 1, none⟩ = some (.int .i64 x.n) ∧ wr.drew.cell? ⟨gx, 2, none⟩ = some (.int .i64 x.b) ∧ wr.drew.cell? ⟨gx, 3, none⟩ = some (.int .i64 x.c) ∧ wr.drew.cell? ⟨gx, 4, none⟩ = some (.int .i64 x.a) ∧ wr.drew.cell? ⟨gx, 5, none⟩ = some (.int .i64 x.r) ∧ wr.drew.cell? ⟨gx, 6, none⟩ = some (.int .i64 x.t) ∧ wr.drew.cell? ⟨gx, 7, none⟩ = some (.int .i64 x.y) ∧ wr.drew.cell? ⟨w1.heap.size, j * 3, none⟩ = some (.int .i64 mm) ∧ wr.drew.cell? ⟨w1.heap.size, j * 3 + 1, none⟩ = some (.slice pp nn cc) ∧ wr.drew.cell? ⟨w1.heap.size, j * 3 + 2, none⟩ = some (.slice qq aa bb) := ⟨c0, c1, xb, c3, c4, c5, c6, c7, b0, b1, b2⟩
                have HS : Hid (∀ w', Below wr.heap.size wr w' → w'.cell? ⟨gx, 0, none⟩ = some (.int .i64 x.s) ∧ w'.cell? ⟨gx, 1, none⟩ = some (.int .i64 x.n) ∧ w'.cell? ⟨gx, 2, none⟩ = some (.int .i64 x.b) ∧ w'.cell? ⟨gx, 3, none⟩ = some (.int .i64 x.c) ∧ w'.cell? ⟨gx, 4, none⟩ = some (.int .i64 x.a) ∧ w'.cell? ⟨gx, 5, none⟩ = some (.int .i64 x.r) ∧ w'.cell? ⟨gx, 6, none⟩ = some (.int .i64 x.t) ∧ w'.cell? ⟨gx, 7, none⟩ = some (.int .i64 x.y) ∧ w'.cell? ⟨w1.heap.size, j * 3, none⟩ = some (.int .i64 mm) ∧ w'.cell? ⟨w1.heap.size, j * 3 + 1, none⟩ = some (.slice pp nn cc) ∧ w'.cell? ⟨w1.heap.size, j * 3 + 2, none⟩ = some (.slice qq aa bb)) := fun w' h => ⟨(HX2.out.below h HX2.out.lt).cell 0, (HX2.out.below h HX2.out.lt).cell 1, (HX2.out.below h HX2.out.lt).cell 2, (HX2.out.below h HX2.out.lt).cell 3, (HX2.out.below h HX2.out.lt).cell 4, (HX2.out.below h HX2.out.lt).cell 5, (HX2.out.below h HX2.out.lt).cell 6, (HX2.out.below h HX2.out.lt).cell 7, (h.cell (p := ⟨w1.heap.size, j * 3, none⟩) HZ2.out.lt).trans b0, (h.cell (p := ⟨w1.heap.size, j * 3 + 1, none⟩) HZ2.out.lt).trans b1, (h.cell (p := ⟨w1.heap.size, j * 3 + 2, none⟩) HZ2.out.lt).trans b2⟩
                have HF0 := Lib.hid ((Below.refl wr.heap.size wr).drew)
                clear c0 c1 c3 c4 c5 c6 c7 b0 b1 b2
                by_cases hk : (k : Int) = odd
                · have e1 : ((k : Int) == odd) = true := by simpa using hk
                  have e2 : ((j : Int) == x.b) = false := by simpa using (fun h => HODD.out ⟨hk, h⟩)
                  clear hk HODD
                  go_upto_region 19 with fail
                  clear xb
                  generalize hW2 : wr = W2 at *
                  clear hW2
                  refine wp_region_held_drew (S := fun w' => w'.cell? ⟨gx, 0, none⟩ = some (.int .i64 x.s) ∧ w'.cell? ⟨gx, 1, none⟩ = some (.int .i64 x.n) ∧ w'.cell? ⟨gx, 2, none⟩ = some (.int .i64 x.b) ∧ w'.cell? ⟨gx, 3, none⟩ = some (.int .i64 x.c) ∧ w'.cell? ⟨gx, 4, none⟩ = some (.int .i64 x.a) ∧ w'.cell? ⟨gx, 5, none⟩ = some (.int .i64 x.r) ∧ w'.cell? ⟨gx, 6, none⟩ = some (.int .i64 x.t) ∧ w'.cell? ⟨gx, 7, none⟩ = some (.int .i64 x.y) ∧ w'.cell? ⟨w1.heap.size, j * 3, none⟩ = some (.int .i64 mm) ∧ w'.cell? ⟨w1.heap.size, j * 3 + 1, none⟩ = some (.slice pp nn cc) ∧ w'.cell? ⟨w1.heap.size, j * 3 + 2, none⟩ = some (.slice qq aa bb)) (by kernel_rfl) hS1 (fun hS0 => ?_)
                  refine wpAnyH_take (i := 0) (v := ?_) rfl (by kernel_rfl) (by kernel_rfl) (by kernel_rfl) (fun _ _ _ h => h) (Or.inl ⟨by kernel_rfl, ?_⟩) (by first | assumption | trivial) ?_
                  rotate_left
                  · intro w hSw
                    try dsimp only at hSw
                    first | (go_simp; done) | (go_simp; with_reducible rfl)
                  try simp only [Act.put, List.getElem_toArray, List.getElem_cons_succ, List.getElem_cons_zero, List.setIfInBounds_toArray, List.set_cons_zero, List.set_cons_succ]
                  refine wpAnyH_take (i := 1) (v := ?_) rfl (by kernel_rfl) (by kernel_rfl) (by kernel_rfl) (fun _ _ _ h => h) (Or.inl ⟨by kernel_rfl, ?_⟩) (by first | assumption | trivial) ?_
                  rotate_left
                  · intro w hSw
                    try dsimp only at hSw
                    first | (go_simp; done) | (go_simp; with_reducible rfl)
                  try simp only [Act.put, List.getElem_toArray, List.getElem_cons_succ, List.getElem_cons_zero, List.setIfInBounds_toArray, List.set_cons_zero, List.set_cons_succ]
                  refine wpAnyH_take (i := 2) (v := ?_) rfl (by kernel_rfl) (by kernel_rfl) (by kernel_rfl) (fun _ _ _ h => h) (Or.inl ⟨by kernel_rfl, ?_⟩) (by first | assumption | trivial) ?_
                  rotate_left
                  · intro w hSw
                    try dsimp only at hSw
                    first | (go_simp; done) | (go_simp; with_reducible rfl)
                  try simp only [Act.put, List.getElem_toArray, List.getElem_cons_succ, List.getElem_cons_zero, List.setIfInBounds_toArray, List.set_cons_zero, List.set_cons_succ]
                  refine wpAnyH_take (i := 3) (v := ?_) rfl (by kernel_rfl) (by kernel_rfl) (by kernel_rfl) (fun _ _ _ h => h) (Or.inl ⟨by kernel_rfl, ?_⟩) (by first | assumption | trivial) ?_
                  rotate_left
                  · intro w hSw
                    try dsimp only at hSw
                    first | (go_simp; done) | (go_simp; with_reducible rfl)
                  try simp only [Act.put, List.getElem_toArray, List.getElem_cons_succ, List.getElem_cons_zero, List.setIfInBounds_toArray, List.set_cons_zero, List.set_cons_succ]
                  generalize W2.drew = q0 at *
                  refine wpAnyH_ready (rs := [4, 8]) (by kernel_rfl) (by simp) ?_
                  refine AllReadyH.cons rfl (fun K hK => ?_) (AllReadyH.cons rfl (fun K hK => ?_) AllReadyH.nil)
                  · skip
                    go_simp
                    go_at_call 13
                    refine (HPUT.out q0 HF0.out).mono ?_
                    rintro y q1 ⟨p3, n3, c3, rfl, hr3, hn3, hb, ho3⟩
                    have HF1 := Lib.hid (HF0.out.trans (hb.mono HF0.out.size))
                    have HR_1 := Lib.hid hr3
                    have HN3 := Lib.hid hn3
                    have HO3 : Hid (∀ k, (Value.slice p3 n3 c3).ownBlock = some k → (Value.slice pp nn cc).ownBlock = some k ∨ W2.heap.size ≤ k) := fun k hk => (ho3 k hk).imp id (fun h => Nat.le_trans HF0.out.size h)
                    clear hb hr3 hn3 ho3
                    try go_wp2_with fail
                    refine hK.out _ _ (HS.out q1 HF1.out) (fun hS => ?_)
                    clear hK K
                    try simp only [Act.put, List.getElem_toArray, List.getElem_cons_succ, List.getElem_cons_zero, List.setIfInBounds_toArray, List.set_cons_zero, List.set_cons_succ]
                    refine wpAnyH_take (i := 5) (v := ?_) rfl (by kernel_rfl) (by kernel_rfl) (by kernel_rfl) (fun _ _ _ h => h) (Or.inl ⟨by kernel_rfl, ?_⟩) (by first | assumption | trivial) ?_
                    rotate_left
                    · intro w hSw
                      try dsimp only at hSw
                      first | (go_simp; done) | (go_simp; with_reducible rfl)
                    try simp only [Act.put, List.getElem_toArray, List.getElem_cons_succ, List.getElem_cons_zero, List.setIfInBounds_toArray, List.set_cons_zero, List.set_cons_succ]
                    refine wpAnyH_take (i := 6) (v := ?_) rfl (by kernel_rfl) (by kernel_rfl) (by kernel_rfl) (fun _ _ _ h => h) (Or.inl ⟨by kernel_rfl, ?_⟩) (by first | assumption | trivial) ?_
                    rotate_left
                    · intro w hSw
                      try dsimp only at hSw
                      first | (go_simp; done) | (go_simp; with_reducible rfl)
                    try simp only [Act.put, List.getElem_toArray, List.getElem_cons_succ, List.getElem_cons_zero, List.setIfInBounds_toArray, List.set_cons_zero, List.set_cons_succ]
                    refine wpAnyH_take (i := 7) (v := ?_) rfl (by kernel_rfl) (by kernel_rfl) (by kernel_rfl) (fun _ _ _ h => h) (Or.inl ⟨by kernel_rfl, ?_⟩) (by first | assumption | trivial) ?_
                    rotate_left
                    · intro w hSw
                      try dsimp only at hSw
                      first | (go_simp; done) | (go_simp; with_reducible rfl)
                    try simp only [Act.put, List.getElem_toArray, List.getElem_cons_succ, List.getElem_cons_zero, List.setIfInBounds_toArray, List.set_cons_zero, List.set_cons_succ]
                    refine wpAnyH_ready (rs := [8]) (by kernel_rfl) (by simp) ?_
                    refine AllReadyH.cons rfl (fun K hK => ?_) AllReadyH.nil
                    go_simp
                    have hb := oneB q1 (.cells #[.int .i64 0, .slice none 0 0, .slice none 0 0] 26)
                    have HF2 := Lib.hid (HF1.out.trans (hb.mono HF1.out.size))
                    have HA_2 := Lib.hid (Blk.new q1 #[.int .i64 0, .slice none 0 0, .slice none 0 0] 26)
                    have HGE : Hid (W2.heap.size ≤ q1.heap.size) := HF1.out.size
                    have HR_2 := Lib.hid (HR_1.out.kept hb)
                    have HNE := Lib.hid HR_1.out.ne_new
                    clear hb
                    generalize q1.alloc (.cells #[.int .i64 0, .slice none 0 0, .slice none 0 0] 26) = q2 at *
                    generalize q1.heap.size = g12 at *
                    refine hK.out _ _ (HS.out q2 HF2.out) (fun hS => ?_)
                    clear hK K
                    try simp only [Act.put, List.getElem_toArray, List.getElem_cons_succ, List.getElem_cons_zero, List.setIfInBounds_toArray, List.set_cons_zero, List.set_cons_succ]
                    refine wpAnyH_ready (rs := [9]) (by kernel_rfl) (by simp) ?_
                    refine AllReadyH.cons rfl (fun K hK => ?_) AllReadyH.nil
                    have z0 : q2.cell? ⟨g12, 0, none⟩ = some (.int .i64 0) := HA_2.out.cell 0
                    have z1 : q2.cell? ⟨g12, 1, none⟩ = some (.slice none 0 0) := HA_2.out.cell 1
                    have z2 : q2.cell? ⟨g12, 2, none⟩ = some (.slice none 0 0) := HA_2.out.cell 2
                    have f0 := HA_2.out.free 0
                    have f1 := HA_2.out.free 1
                    have f2 := HA_2.out.free 2
                    have HA_3 := Lib.hid (st3_blk HA_2.out rfl (.int .i64 mm) (.slice p3 n3 c3) (.slice qq aa bb))
                    have HR_3 := Lib.hid (row_st3N HR_2.out HNE.out (.int .i64 mm) (.slice p3 n3 c3) (.slice qq aa bb))
                    have HF3 := Lib.hid (st3_below (g := g12) HF2.out HGE.out (.int .i64 mm) (.slice p3 n3 c3) (.slice qq aa bb))
                    unfold st3 at HA_3 HR_3 HF3
                    go_simp
                    generalize (((q2.setCell ⟨g12, 0, none⟩ (.int .i64 mm)).setCell ⟨g12, 1, none⟩ (.slice p3 n3 c3)).setCell ⟨g12, 2, none⟩ (.slice qq aa bb)) = q3 at *
                    clear z0 z1 z2 f0 f1 f2
                    refine hK.out _ _ (HS.out q3 HF3.out) (fun hS => ?_)
                    clear hK K
                    try simp only [Act.put, List.getElem_toArray, List.getElem_cons_succ, List.getElem_cons_zero, List.setIfInBounds_toArray, List.set_cons_zero, List.set_cons_succ]
                    refine wpAnyH_take (i := 10) (v := ?_) rfl (by kernel_rfl) (by kernel_rfl) (by kernel_rfl) (fun _ _ _ h => h) (Or.inl ⟨by kernel_rfl, ?_⟩) (by first | assumption | trivial) ?_
                    rotate_left
                    · intro w hSw
                      try dsimp only at hSw
                      first | (go_simp; done) | (go_simp; with_reducible rfl)
                    try simp only [Act.put, List.getElem_toArray, List.getElem_cons_succ, List.getElem_cons_zero, List.setIfInBounds_toArray, List.set_cons_zero, List.set_cons_succ]
                    refine wpAnyH_done (by kernel_rfl) ?_ _
                    have HZ9 := Lib.hid (HZ2.out.kept HF3.out)
                    have HX9 := Lib.hid (HX2.out.below HF3.out HX2.out.lt)
                    have HW9 := Lib.hid (HW2.out.trans (HF3.out.mono HW2.out.size))
                    by_cases hee : ee = 0
                    · subst hee
                      have b0 : q3.cell? ⟨g12, 0, none⟩ = some (.int .i64 mm) := HA_3.out.cell 0
                      have b1 : q3.cell? ⟨g12, 1, none⟩ = some (.slice p3 n3 c3) := HA_3.out.cell 1
                      have b2 : q3.cell? ⟨g12, 2, none⟩ = some (.slice qq aa bb) := HA_3.out.cell 2
                      have HTH := Lib.hid (HZ9.out.there hj3)
                      have HNX : Hid (Zr w1.heap.size 3 (3 * k + (j + 1)) (bs.set j ⟨mm, p3, n3, c3, qq, aa, bb, putX mm XS x⟩) (q3.setCells w1.heap.size (j * 3) (encB.E ⟨mm, p3, n3, c3, qq, aa, bb, putX mm XS x⟩)) ∧ Blk (q3.setCells w1.heap.size (j * 3) (encB.E ⟨mm, p3, n3, c3, qq, aa, bb, putX mm XS x⟩)) gx #[.int .i64 x.s, .int .i64 x.n, .int .i64 x.b, .int .i64 x.c, .int .i64 x.a, .int .i64 x.r, .int .i64 x.t, .int .i64 x.y] 39 ∧ Below w1.heap.size w1 (q3.setCells w1.heap.size (j * 3) (encB.E ⟨mm, p3, n3, c3, qq, aa, bb, putX mm XS x⟩))) := ⟨HZ9.out.put hj3 (HBP.out q3 p3 n3 c3 rfl HR_3.out HN3.out HF3.out HO3.out) (by omega) (fun j hj => .inl hj), blk_putOther (Nat.ne_of_lt HGX.out) _ _ _ HX9.out, below_put HGZ.out _ _ _ _ HW9.out⟩
                      clear HA_3 HR_3 HZ9 HX9 HW9 HBP HN3 HO3
                      go_wp2_with (with_reducible refine stop_storeT 26 (.tmp 87) (.tmp 86) rfl ?_)
                      refine wpList_store_mid rfl 26 (.tmp 87) (.tmp 86) rfl w1.heap.size (j * 3) #[.int .i64 mm, .slice p3 n3 c3, .slice qq aa bb] rfl rfl HTH.out HINF.out (all_oneCell_toArray (encB.one ⟨mm, p3, n3, c3, qq, aa, bb, putX mm XS x⟩)) ?_
                      replace HNX : Hid (Zr w1.heap.size 3 (3 * k + (j + 1)) (bs.set j ⟨mm, p3, n3, c3, qq, aa, bb, putX mm XS x⟩) (q3.setCells w1.heap.size (j * 3) (#[.int .i64 mm, .slice p3 n3 c3, .slice qq aa bb] : Array Value).toList) ∧ Blk (q3.setCells w1.heap.size (j * 3) (#[.int .i64 mm, .slice p3 n3 c3, .slice qq aa bb] : Array Value).toList) gx #[.int .i64 x.s, .int .i64 x.n, .int .i64 x.b, .int .i64 x.c, .int .i64 x.a, .int .i64 x.r, .int .i64 x.t, .int .i64 x.y] 39 ∧ Below w1.heap.size w1 (q3.setCells w1.heap.size (j * 3) (#[.int .i64 mm, .slice p3 n3 c3, .slice qq aa bb] : Array Value).toList)) := HNX
                      generalize World.setCells q3 w1.heap.size (j * 3) _ = W7 at *
                      clear HTH b0 b1 b2
                      go_wp2_with fail
                      go_roundw
                      case rel => exact ⟨j + 1, _, by omega, by go_num, HNX⟩
                      case measure => simp [intOf]; omega
                    · have HNX : Hid (Zr w1.heap.size 3 (3 * k + (j + 1)) bs q3 ∧ Blk q3 gx #[.int .i64 x.s, .int .i64 x.n, .int .i64 x.b, .int .i64 x.c, .int .i64 x.a, .int .i64 x.r, .int .i64 x.t, .int .i64 x.y] 39 ∧ Below w1.heap.size w1 q3) := ⟨HZ9.out.more (by omega), HX9.out, HW9.out⟩
                      have e0 : (ee == 0) = false := by simpa using hee
                      clear HA_3 HR_3 HZ9 HX9 HW9 HBP HN3 HO3 hee
                      go_wp2_with fail
                      go_roundw
                      case rel => exact ⟨j + 1, _, by omega, by go_num, HNX⟩
                      case measure => simp [intOf]; omega
                  · skip
                    go_simp
                    have hb := oneB q0 (.cells #[.int .i64 0, .slice none 0 0, .slice none 0 0] 26)
                    have HF1 := Lib.hid (HF0.out.trans (hb.mono HF0.out.size))
                    have HA_1 := Lib.hid (Blk.new q0 #[.int .i64 0, .slice none 0 0, .slice none 0 0] 26)
                    have HGE : Hid (W2.heap.size ≤ q0.heap.size) := HF0.out.size
                    clear hb
                    generalize q0.alloc (.cells #[.int .i64 0, .slice none 0 0, .slice none 0 0] 26) = q1 at *
                    generalize q0.heap.size = g12 at *
                    refine hK.out _ _ (HS.out q1 HF1.out) (fun hS => ?_)
                    clear hK K
                    try simp only [Act.put, List.getElem_toArray, List.getElem_cons_succ, List.getElem_cons_zero, List.setIfInBounds_toArray, List.set_cons_zero, List.set_cons_succ]
                    refine wpAnyH_ready (rs := [4]) (by kernel_rfl) (by simp) ?_
                    refine AllReadyH.cons rfl (fun K hK => ?_) AllReadyH.nil
                    go_simp
                    go_at_call 13
                    refine (HPUT.out q1 HF1.out).mono ?_
                    rintro y q2 ⟨p3, n3, c3, rfl, hr3, hn3, hb, ho3⟩
                    have HF2 := Lib.hid (HF1.out.trans (hb.mono HF1.out.size))
                    have HR_2 := Lib.hid hr3
                    have HN3 := Lib.hid hn3
                    have HO3 : Hid (∀ k, (Value.slice p3 n3 c3).ownBlock = some k → (Value.slice pp nn cc).ownBlock = some k ∨ W2.heap.size ≤ k) := fun k hk => (ho3 k hk).imp id (fun h => Nat.le_trans HF1.out.size h)
                    have HA_2 := Lib.hid (HA_1.out.below hb HA_1.out.lt)
                    have HNE : Hid (NeB (.slice p3 n3 c3) (putX mm XS x) g12) := .inr (fun k hk => (ho3 k hk).elim (fun h => by have := HOWN.out k h; have := HGE.out; omega) (fun h => by have := HA_1.out.lt; omega))
                    clear hb hr3 hn3 ho3
                    try go_wp2_with fail
                    refine hK.out _ _ (HS.out q2 HF2.out) (fun hS => ?_)
                    clear hK K
                    try simp only [Act.put, List.getElem_toArray, List.getElem_cons_succ, List.getElem_cons_zero, List.setIfInBounds_toArray, List.set_cons_zero, List.set_cons_succ]
                    refine wpAnyH_take (i := 5) (v := ?_) rfl (by kernel_rfl) (by kernel_rfl) (by kernel_rfl) (fun _ _ _ h => h) (Or.inl ⟨by kernel_rfl, ?_⟩) (by first | assumption | trivial) ?_
                    rotate_left
                    · intro w hSw
                      try dsimp only at hSw
                      first | (go_simp; done) | (go_simp; with_reducible rfl)
                    try simp only [Act.put, List.getElem_toArray, List.getElem_cons_succ, List.getElem_cons_zero, List.setIfInBounds_toArray, List.set_cons_zero, List.set_cons_succ]
                    refine wpAnyH_take (i := 6) (v := ?_) rfl (by kernel_rfl) (by kernel_rfl) (by kernel_rfl) (fun _ _ _ h => h) (Or.inl ⟨by kernel_rfl, ?_⟩) (by first | assumption | trivial) ?_
                    rotate_left
                    · intro w hSw
                      try dsimp only at hSw
                      first | (go_simp; done) | (go_simp; with_reducible rfl)
                    try simp only [Act.put, List.getElem_toArray, List.getElem_cons_succ, List.getElem_cons_zero, List.setIfInBounds_toArray, List.set_cons_zero, List.set_cons_succ]
                    refine wpAnyH_take (i := 7) (v := ?_) rfl (by kernel_rfl) (by kernel_rfl) (by kernel_rfl) (fun _ _ _ h => h) (Or.inl ⟨by kernel_rfl, ?_⟩) (by first | assumption | trivial) ?_
                    rotate_left
                    · intro w hSw
                      try dsimp only at hSw
                      first | (go_simp; done) | (go_simp; with_reducible rfl)
                    try simp only [Act.put, List.getElem_toArray, List.getElem_cons_succ, List.getElem_cons_zero, List.setIfInBounds_toArray, List.set_cons_zero, List.set_cons_succ]
                    refine wpAnyH_ready (rs := [9]) (by kernel_rfl) (by simp) ?_
                    refine AllReadyH.cons rfl (fun K hK => ?_) AllReadyH.nil
                    have z0 : q2.cell? ⟨g12, 0, none⟩ = some (.int .i64 0) := HA_2.out.cell 0
                    have z1 : q2.cell? ⟨g12, 1, none⟩ = some (.slice none 0 0) := HA_2.out.cell 1
                    have z2 : q2.cell? ⟨g12, 2, none⟩ = some (.slice none 0 0) := HA_2.out.cell 2
                    have f0 := HA_2.out.free 0
                    have f1 := HA_2.out.free 1
                    have f2 := HA_2.out.free 2
                    have HA_3 := Lib.hid (st3_blk HA_2.out rfl (.int .i64 mm) (.slice p3 n3 c3) (.slice qq aa bb))
                    have HR_3 := Lib.hid (row_st3N HR_2.out HNE.out (.int .i64 mm) (.slice p3 n3 c3) (.slice qq aa bb))
                    have HF3 := Lib.hid (st3_below (g := g12) HF2.out HGE.out (.int .i64 mm) (.slice p3 n3 c3) (.slice qq aa bb))
                    unfold st3 at HA_3 HR_3 HF3
                    go_simp
                    generalize (((q2.setCell ⟨g12, 0, none⟩ (.int .i64 mm)).setCell ⟨g12, 1, none⟩ (.slice p3 n3 c3)).setCell ⟨g12, 2, none⟩ (.slice qq aa bb)) = q3 at *
                    clear z0 z1 z2 f0 f1 f2
                    refine hK.out _ _ (HS.out q3 HF3.out) (fun hS => ?_)
                    clear hK K
                    try simp only [Act.put, List.getElem_toArray, List.getElem_cons_succ, List.getElem_cons_zero, List.setIfInBounds_toArray, List.set_cons_zero, List.set_cons_succ]
                    refine wpAnyH_take (i := 10) (v := ?_) rfl (by kernel_rfl) (by kernel_rfl) (by kernel_rfl) (fun _ _ _ h => h) (Or.inl ⟨by kernel_rfl, ?_⟩) (by first | assumption | trivial) ?_
                    rotate_left
                    · intro w hSw
                      try dsimp only at hSw
                      first | (go_simp; done) | (go_simp; with_reducible rfl)
                    try simp only [Act.put, List.getElem_toArray, List.getElem_cons_succ, List.getElem_cons_zero, List.setIfInBounds_toArray, List.set_cons_zero, List.set_cons_succ]
                    refine wpAnyH_done (by kernel_rfl) ?_ _
                    have HZ9 := Lib.hid (HZ2.out.kept HF3.out)
                    have HX9 := Lib.hid (HX2.out.below HF3.out HX2.out.lt)
                    have HW9 := Lib.hid (HW2.out.trans (HF3.out.mono HW2.out.size))
                    by_cases hee : ee = 0
                    · subst hee
                      have b0 : q3.cell? ⟨g12, 0, none⟩ = some (.int .i64 mm) := HA_3.out.cell 0
                      have b1 : q3.cell? ⟨g12, 1, none⟩ = some (.slice p3 n3 c3) := HA_3.out.cell 1
                      have b2 : q3.cell? ⟨g12, 2, none⟩ = some (.slice qq aa bb) := HA_3.out.cell 2
                      have HTH := Lib.hid (HZ9.out.there hj3)
                      have HNX : Hid (Zr w1.heap.size 3 (3 * k + (j + 1)) (bs.set j ⟨mm, p3, n3, c3, qq, aa, bb, putX mm XS x⟩) (q3.setCells w1.heap.size (j * 3) (encB.E ⟨mm, p3, n3, c3, qq, aa, bb, putX mm XS x⟩)) ∧ Blk (q3.setCells w1.heap.size (j * 3) (encB.E ⟨mm, p3, n3, c3, qq, aa, bb, putX mm XS x⟩)) gx #[.int .i64 x.s, .int .i64 x.n, .int .i64 x.b, .int .i64 x.c, .int .i64 x.a, .int .i64 x.r, .int .i64 x.t, .int .i64 x.y] 39 ∧ Below w1.heap.size w1 (q3.setCells w1.heap.size (j * 3) (encB.E ⟨mm, p3, n3, c3, qq, aa, bb, putX mm XS x⟩))) := ⟨HZ9.out.put hj3 (HBP.out q3 p3 n3 c3 rfl HR_3.out HN3.out HF3.out HO3.out) (by omega) (fun j hj => .inl hj), blk_putOther (Nat.ne_of_lt HGX.out) _ _ _ HX9.out, below_put HGZ.out _ _ _ _ HW9.out⟩
                      clear HA_3 HR_3 HZ9 HX9 HW9 HBP HN3 HO3
                      go_wp2_with (with_reducible refine stop_storeT 26 (.tmp 87) (.tmp 86) rfl ?_)
                      refine wpList_store_mid rfl 26 (.tmp 87) (.tmp 86) rfl w1.heap.size (j * 3) #[.int .i64 mm, .slice p3 n3 c3, .slice qq aa bb] rfl rfl HTH.out HINF.out (all_oneCell_toArray (encB.one ⟨mm, p3, n3, c3, qq, aa, bb, putX mm XS x⟩)) ?_
                      replace HNX : Hid (Zr w1.heap.size 3 (3 * k + (j + 1)) (bs.set j ⟨mm, p3, n3, c3, qq, aa, bb, putX mm XS x⟩) (q3.setCells w1.heap.size (j * 3) (#[.int .i64 mm, .slice p3 n3 c3, .slice qq aa bb] : Array Value).toList) ∧ Blk (q3.setCells w1.heap.size (j * 3) (#[.int .i64 mm, .slice p3 n3 c3, .slice qq aa bb] : Array Value).toList) gx #[.int .i64 x.s, .int .i64 x.n, .int .i64 x.b, .int .i64 x.c, .int .i64 x.a, .int .i64 x.r, .int .i64 x.t, .int .i64 x.y] 39 ∧ Below w1.heap.size w1 (q3.setCells w1.heap.size (j * 3) (#[.int .i64 mm, .slice p3 n3 c3, .slice qq aa bb] : Array Value).toList)) := HNX
                      generalize World.setCells q3 w1.heap.size (j * 3) _ = W7 at *
                      clear HTH b0 b1 b2
                      go_wp2_with fail
                      go_roundw
                      case rel => exact ⟨j + 1, _, by omega, by go_num, HNX⟩
                      case measure => simp [intOf]; omega
                    · have HNX : Hid (Zr w1.heap.size 3 (3 * k + (j + 1)) bs q3 ∧ Blk q3 gx #[.int .i64 x.s, .int .i64 x.n, .int .i64 x.b, .int .i64 x.c, .int .i64 x.a, .int .i64 x.r, .int .i64 x.t, .int .i64 x.y] 39 ∧ Below w1.heap.size w1 q3) := ⟨HZ9.out.more (by omega), HX9.out, HW9.out⟩
                      have e0 : (ee == 0) = false := by simpa using hee
                      clear HA_3 HR_3 HZ9 HX9 HW9 HBP HN3 HO3 hee
                      go_wp2_with fail
                      go_roundw
                      case rel => exact ⟨j + 1, _, by omega, by go_num, HNX⟩
                      case measure => simp [intOf]; omega
                · have e1 : ((k : Int) == odd) = false := by simpa using hk
                  clear hk HODD
                  go_upto_region 19 with fail
                  clear xb
                  generalize hW2 : wr = W2 at *
                  clear hW2
                  refine wp_region_held_drew (S := fun w' => w'.cell? ⟨gx, 0, none⟩ = some (.int .i64 x.s) ∧ w'.cell? ⟨gx, 1, none⟩ = some (.int .i64 x.n) ∧ w'.cell? ⟨gx, 2, none⟩ = some (.int .i64 x.b) ∧ w'.cell? ⟨gx, 3, none⟩ = some (.int .i64 x.c) ∧ w'.cell? ⟨gx, 4, none⟩ = some (.int .i64 x.a) ∧ w'.cell? ⟨gx, 5, none⟩ = some (.int .i64 x.r) ∧ w'.cell? ⟨gx, 6, none⟩ = some (.int .i64 x.t) ∧ w'.cell? ⟨gx, 7, none⟩ = some (.int .i64 x.y) ∧ w'.cell? ⟨w1.heap.size, j * 3, none⟩ = some (.int .i64 mm) ∧ w'.cell? ⟨w1.heap.size, j * 3 + 1, none⟩ = some (.slice pp nn cc) ∧ w'.cell? ⟨w1.heap.size, j * 3 + 2, none⟩ = some (.slice qq aa bb)) (by kernel_rfl) hS1 (fun hS0 => ?_)
                  refine wpAnyH_take (i := 0) (v := ?_) rfl (by kernel_rfl) (by kernel_rfl) (by kernel_rfl) (fun _ _ _ h => h) (Or.inl ⟨by kernel_rfl, ?_⟩) (by first | assumption | trivial) ?_
                  rotate_left
                  · intro w hSw
                    try dsimp only at hSw
                    first | (go_simp; done) | (go_simp; with_reducible rfl)
                  try simp only [Act.put, List.getElem_toArray, List.getElem_cons_succ, List.getElem_cons_zero, List.setIfInBounds_toArray, List.set_cons_zero, List.set_cons_succ]
                  refine wpAnyH_take (i := 1) (v := ?_) rfl (by kernel_rfl) (by kernel_rfl) (by kernel_rfl) (fun _ _ _ h => h) (Or.inl ⟨by kernel_rfl, ?_⟩) (by first | assumption | trivial) ?_
                  rotate_left
                  · intro w hSw
                    try dsimp only at hSw
                    first | (go_simp; done) | (go_simp; with_reducible rfl)
                  try simp only [Act.put, List.getElem_toArray, List.getElem_cons_succ, List.getElem_cons_zero, List.setIfInBounds_toArray, List.set_cons_zero, List.set_cons_succ]
                  refine wpAnyH_take (i := 2) (v := ?_) rfl (by kernel_rfl) (by kernel_rfl) (by kernel_rfl) (fun _ _ _ h => h) (Or.inl ⟨by kernel_rfl, ?_⟩) (by first | assumption | trivial) ?_
                  rotate_left
                  · intro w hSw
                    try dsimp only at hSw
                    first | (go_simp; done) | (go_simp; with_reducible rfl)
                  try simp only [Act.put, List.getElem_toArray, List.getElem_cons_succ, List.getElem_cons_zero, List.setIfInBounds_toArray, List.set_cons_zero, List.set_cons_succ]
                  refine wpAnyH_take (i := 3) (v := ?_) rfl (by kernel_rfl) (by kernel_rfl) (by kernel_rfl) (fun _ _ _ h => h) (Or.inl ⟨by kernel_rfl, ?_⟩) (by first | assumption | trivial) ?_
                  rotate_left
                  · intro w hSw
                    try dsimp only at hSw
                    first | (go_simp; done) | (go_simp; with_reducible rfl)
                  try simp only [Act.put, List.getElem_toArray, List.getElem_cons_succ, List.getElem_cons_zero, List.setIfInBounds_toArray, List.set_cons_zero, List.set_cons_succ]
                  generalize W2.drew = q0 at *
                  refine wpAnyH_ready (rs := [4, 8]) (by kernel_rfl) (by simp) ?_
                  refine AllReadyH.cons rfl (fun K hK => ?_) (AllReadyH.cons rfl (fun K hK => ?_) AllReadyH.nil)
                  · skip
                    go_simp
                    go_at_call 13
                    refine (HPUT.out q0 HF0.out).mono ?_
                    rintro y q1 ⟨p3, n3, c3, rfl, hr3, hn3, hb, ho3⟩
                    have HF1 := Lib.hid (HF0.out.trans (hb.mono HF0.out.size))
                    have HR_1 := Lib.hid hr3
                    have HN3 := Lib.hid hn3
                    have HO3 : Hid (∀ k, (Value.slice p3 n3 c3).ownBlock = some k → (Value.slice pp nn cc).ownBlock = some k ∨ W2.heap.size ≤ k) := fun k hk => (ho3 k hk).imp id (fun h => Nat.le_trans HF0.out.size h)
                    clear hb hr3 hn3 ho3
                    try go_wp2_with fail
                    refine hK.out _ _ (HS.out q1 HF1.out) (fun hS => ?_)
                    clear hK K
                    try simp only [Act.put, List.getElem_toArray, List.getElem_cons_succ, List.getElem_cons_zero, List.setIfInBounds_toArray, List.set_cons_zero, List.set_cons_succ]
                    refine wpAnyH_take (i := 5) (v := ?_) rfl (by kernel_rfl) (by kernel_rfl) (by kernel_rfl) (fun _ _ _ h => h) (Or.inl ⟨by kernel_rfl, ?_⟩) (by first | assumption | trivial) ?_
                    rotate_left
                    · intro w hSw
                      try dsimp only at hSw
                      first | (go_simp; done) | (go_simp; with_reducible rfl)
                    try simp only [Act.put, List.getElem_toArray, List.getElem_cons_succ, List.getElem_cons_zero, List.setIfInBounds_toArray, List.set_cons_zero, List.set_cons_succ]
                    refine wpAnyH_take (i := 6) (v := ?_) rfl (by kernel_rfl) (by kernel_rfl) (by kernel_rfl) (fun _ _ _ h => h) (Or.inl ⟨by kernel_rfl, ?_⟩) (by first | assumption | trivial) ?_
                    rotate_left
                    · intro w hSw
                      try dsimp only at hSw
                      first | (go_simp; done) | (go_simp; with_reducible rfl)
                    try simp only [Act.put, List.getElem_toArray, List.getElem_cons_succ, List.getElem_cons_zero, List.setIfInBounds_toArray, List.set_cons_zero, List.set_cons_succ]
                    refine wpAnyH_take (i := 7) (v := ?_) rfl (by kernel_rfl) (by kernel_rfl) (by kernel_rfl) (fun _ _ _ h => h) (Or.inl ⟨by kernel_rfl, ?_⟩) (by first | assumption | trivial) ?_
                    rotate_left
                    · intro w hSw
                      try dsimp only at hSw
                      first | (go_simp; done) | (go_simp; with_reducible rfl)
                    try simp only [Act.put, List.getElem_toArray, List.getElem_cons_succ, List.getElem_cons_zero, List.setIfInBounds_toArray, List.set_cons_zero, List.set_cons_succ]
                    refine wpAnyH_ready (rs := [8]) (by kernel_rfl) (by simp) ?_
                    refine AllReadyH.cons rfl (fun K hK => ?_) AllReadyH.nil
                    go_simp
                    have hb := oneB q1 (.cells #[.int .i64 0, .slice none 0 0, .slice none 0 0] 26)
                    have HF2 := Lib.hid (HF1.out.trans (hb.mono HF1.out.size))
                    have HA_2 := Lib.hid (Blk.new q1 #[.int .i64 0, .slice none 0 0, .slice none 0 0] 26)
                    have HGE : Hid (W2.heap.size ≤ q1.heap.size) := HF1.out.size
                    have HR_2 := Lib.hid (HR_1.out.kept hb)
                    have HNE := Lib.hid HR_1.out.ne_new
                    clear hb
                    generalize q1.alloc (.cells #[.int .i64 0, .slice none 0 0, .slice none 0 0] 26) = q2 at *
                    generalize q1.heap.size = g12 at *
                    refine hK.out _ _ (HS.out q2 HF2.out) (fun hS => ?_)
                    clear hK K
                    try simp only [Act.put, List.getElem_toArray, List.getElem_cons_succ, List.getElem_cons_zero, List.setIfInBounds_toArray, List.set_cons_zero, List.set_cons_succ]
                    refine wpAnyH_ready (rs := [9]) (by kernel_rfl) (by simp) ?_
                    refine AllReadyH.cons rfl (fun K hK => ?_) AllReadyH.nil
                    have z0 : q2.cell? ⟨g12, 0, none⟩ = some (.int .i64 0) := HA_2.out.cell 0
                    have z1 : q2.cell? ⟨g12, 1, none⟩ = some (.slice none 0 0) := HA_2.out.cell 1
                    have z2 : q2.cell? ⟨g12, 2, none⟩ = some (.slice none 0 0) := HA_2.out.cell 2
                    have f0 := HA_2.out.free 0
                    have f1 := HA_2.out.free 1
                    have f2 := HA_2.out.free 2
                    have HA_3 := Lib.hid (st3_blk HA_2.out rfl (.int .i64 mm) (.slice p3 n3 c3) (.slice qq aa bb))
                    have HR_3 := Lib.hid (row_st3N HR_2.out HNE.out (.int .i64 mm) (.slice p3 n3 c3) (.slice qq aa bb))
                    have HF3 := Lib.hid (st3_below (g := g12) HF2.out HGE.out (.int .i64 mm) (.slice p3 n3 c3) (.slice qq aa bb))
                    unfold st3 at HA_3 HR_3 HF3
                    go_simp
                    generalize (((q2.setCell ⟨g12, 0, none⟩ (.int .i64 mm)).setCell ⟨g12, 1, none⟩ (.slice p3 n3 c3)).setCell ⟨g12, 2, none⟩ (.slice qq aa bb)) = q3 at *
                    clear z0 z1 z2 f0 f1 f2
                    refine hK.out _ _ (HS.out q3 HF3.out) (fun hS => ?_)
                    clear hK K
                    try simp only [Act.put, List.getElem_toArray, List.getElem_cons_succ, List.getElem_cons_zero, List.setIfInBounds_toArray, List.set_cons_zero, List.set_cons_succ]
                    refine wpAnyH_take (i := 10) (v := ?_) rfl (by kernel_rfl) (by kernel_rfl) (by kernel_rfl) (fun _ _ _ h => h) (Or.inl ⟨by kernel_rfl, ?_⟩) (by first | assumption | trivial) ?_
                    rotate_left
                    · intro w hSw
                      try dsimp only at hSw
                      first | (go_simp; done) | (go_simp; with_reducible rfl)
                    try simp only [Act.put, List.getElem_toArray, List.getElem_cons_succ, List.getElem_cons_zero, List.setIfInBounds_toArray, List.set_cons_zero, List.set_cons_succ]
                    refine wpAnyH_done (by kernel_rfl) ?_ _
                    have HZ9 := Lib.hid (HZ2.out.kept HF3.out)
                    have HX9 := Lib.hid (HX2.out.below HF3.out HX2.out.lt)
                    have HW9 := Lib.hid (HW2.out.trans (HF3.out.mono HW2.out.size))
                    by_cases hee : ee = 0
                    · subst hee
                      have b0 : q3.cell? ⟨g12, 0, none⟩ = some (.int .i64 mm) := HA_3.out.cell 0
                      have b1 : q3.cell? ⟨g12, 1, none⟩ = some (.slice p3 n3 c3) := HA_3.out.cell 1
                      have b2 : q3.cell? ⟨g12, 2, none⟩ = some (.slice qq aa bb) := HA_3.out.cell 2
                      have HTH := Lib.hid (HZ9.out.there hj3)
                      have HNX : Hid (Zr w1.heap.size 3 (3 * k + (j + 1)) (bs.set j ⟨mm, p3, n3, c3, qq, aa, bb, putX mm XS x⟩) (q3.setCells w1.heap.size (j * 3) (encB.E ⟨mm, p3, n3, c3, qq, aa, bb, putX mm XS x⟩)) ∧ Blk (q3.setCells w1.heap.size (j * 3) (encB.E ⟨mm, p3, n3, c3, qq, aa, bb, putX mm XS x⟩)) gx #[.int .i64 x.s, .int .i64 x.n, .int .i64 x.b, .int .i64 x.c, .int .i64 x.a, .int .i64 x.r, .int .i64 x.t, .int .i64 x.y] 39 ∧ Below w1.heap.size w1 (q3.setCells w1.heap.size (j * 3) (encB.E ⟨mm, p3, n3, c3, qq, aa, bb, putX mm XS x⟩))) := ⟨HZ9.out.put hj3 (HBP.out q3 p3 n3 c3 rfl HR_3.out HN3.out HF3.out HO3.out) (by omega) (fun j hj => .inl hj), blk_putOther (Nat.ne_of_lt HGX.out) _ _ _ HX9.out, below_put HGZ.out _ _ _ _ HW9.out⟩
                      clear HA_3 HR_3 HZ9 HX9 HW9 HBP HN3 HO3
                      go_wp2_with (with_reducible refine stop_storeT 26 (.tmp 87) (.tmp 86) rfl ?_)
                      refine wpList_store_mid rfl 26 (.tmp 87) (.tmp 86) rfl w1.heap.size (j * 3) #[.int .i64 mm, .slice p3 n3 c3, .slice qq aa bb] rfl rfl HTH.out HINF.out (all_oneCell_toArray (encB.one ⟨mm, p3, n3, c3, qq, aa, bb, putX mm XS x⟩)) ?_
                      replace HNX : Hid (Zr w1.heap.size 3 (3 * k + (j + 1)) (bs.set j ⟨mm, p3, n3, c3, qq, aa, bb, putX mm XS x⟩) (q3.setCells w1.heap.size (j * 3) (#[.int .i64 mm, .slice p3 n3 c3, .slice qq aa bb] : Array Value).toList) ∧ Blk (q3.setCells w1.heap.size (j * 3) (#[.int .i64 mm, .slice p3 n3 c3, .slice qq aa bb] : Array Value).toList) gx #[.int .i64 x.s, .int .i64 x.n, .int .i64 x.b, .int .i64 x.c, .int .i64 x.a, .int .i64 x.r, .int .i64 x.t, .int .i64 x.y] 39 ∧ Below w1.heap.size w1 (q3.setCells w1.heap.size (j * 3) (#[.int .i64 mm, .slice p3 n3 c3, .slice qq aa bb] : Array Value).toList)) := HNX
                      generalize World.setCells q3 w1.heap.size (j * 3) _ = W7 at *
                      clear HTH b0 b1 b2
                      go_wp2_with fail
                      go_roundw
                      case rel => exact ⟨j + 1, _, by omega, by go_num, HNX⟩
                      case measure => simp [intOf]; omega
                    · have HNX : Hid (Zr w1.heap.size 3 (3 * k + (j + 1)) bs q3 ∧ Blk q3 gx #[.int .i64 x.s, .int .i64 x.n, .int .i64 x.b, .int .i64 x.c, .int .i64 x.a, .int .i64 x.r, .int .i64 x.t, .int .i64 x.y] 39 ∧ Below w1.heap.size w1 q3) := ⟨HZ9.out.more (by omega), HX9.out, HW9.out⟩
                      have e0 : (ee == 0) = false := by simpa using hee
                      clear HA_3 HR_3 HZ9 HX9 HW9 HBP HN3 HO3 hee
                      go_wp2_with fail
                      go_roundw
                      case rel => exact ⟨j + 1, _, by omega, by go_num, HNX⟩
                      case measure => simp [intOf]; omega
                  · skip
                    go_simp
                    have hb := oneB q0 (.cells #[.int .i64 0, .slice none 0 0, .slice none 0 0] 26)
                    have HF1 := Lib.hid (HF0.out.trans (hb.mono HF0.out.size))
                    have HA_1 := Lib.hid (Blk.new q0 #[.int .i64 0, .slice none 0 0, .slice none 0 0] 26)
                    have HGE : Hid (W2.heap.size ≤ q0.heap.size) := HF0.out.size
                    clear hb
                    generalize q0.alloc (.cells #[.int .i64 0, .slice none 0 0, .slice none 0 0] 26) = q1 at *
                    generalize q0.heap.size = g12 at *
                    refine hK.out _ _ (HS.out q1 HF1.out) (fun hS => ?_)
                    clear hK K
                    try simp only [Act.put, List.getElem_toArray, List.getElem_cons_succ, List.getElem_cons_zero, List.setIfInBounds_toArray, List.set_cons_zero, List.set_cons_succ]
                    refine wpAnyH_ready (rs := [4]) (by kernel_rfl) (by simp) ?_
                    refine AllReadyH.cons rfl (fun K hK => ?_) AllReadyH.nil
                    go_simp
                    go_at_call 13
                    refine (HPUT.out q1 HF1.out).mono ?_
                    rintro y q2 ⟨p3, n3, c3, rfl, hr3, hn3, hb, ho3⟩
                    have HF2 := Lib.hid (HF1.out.trans (hb.mono HF1.out.size))
                    have HR_2 := Lib.hid hr3
                    have HN3 := Lib.hid hn3
                    have HO3 : Hid (∀ k, (Value.slice p3 n3 c3).ownBlock = some k → (Value.slice pp nn cc).ownBlock = some k ∨ W2.heap.size ≤ k) := fun k hk => (ho3 k hk).imp id (fun h => Nat.le_trans HF1.out.size h)
                    have HA_2 := Lib.hid (HA_1.out.below hb HA_1.out.lt)
                    have HNE : Hid (NeB (.slice p3 n3 c3) (putX mm XS x) g12) := .inr (fun k hk => (ho3 k hk).elim (fun h => by have := HOWN.out k h; have := HGE.out; omega) (fun h => by have := HA_1.out.lt; omega))
                    clear hb hr3 hn3 ho3
                    try go_wp2_with fail
                    refine hK.out _ _ (HS.out q2 HF2.out) (fun hS => ?_)
                    clear hK K
                    try simp only [Act.put, List.getElem_toArray, List.getElem_cons_succ, List.getElem_cons_zero, List.setIfInBounds_toArray, List.set_cons_zero, List.set_cons_succ]
                    refine wpAnyH_take (i := 5) (v := ?_) rfl (by kernel_rfl) (by kernel_rfl) (by kernel_rfl) (fun _ _ _ h => h) (Or.inl ⟨by kernel_rfl, ?_⟩) (by first | assumption | trivial) ?_
                    rotate_left
                    · intro w hSw
                      try dsimp only at hSw
                      first | (go_simp; done) | (go_simp; with_reducible rfl)
                    try simp only [Act.put, List.getElem_toArray, List.getElem_cons_succ, List.getElem_cons_zero, List.setIfInBounds_toArray, List.set_cons_zero, List.set_cons_succ]
                    refine wpAnyH_take (i := 6) (v := ?_) rfl (by kernel_rfl) (by kernel_rfl) (by kernel_rfl) (fun _ _ _ h => h) (Or.inl ⟨by kernel_rfl, ?_⟩) (by first | assumption | trivial) ?_
                    rotate_left
                    · intro w hSw
                      try dsimp only at hSw
                      first | (go_simp; done) | (go_simp; with_reducible rfl)
                    try simp only [Act.put, List.getElem_toArray, List.getElem_cons_succ, List.getElem_cons_zero, List.setIfInBounds_toArray, List.set_cons_zero, List.set_cons_succ]
                    refine wpAnyH_take (i := 7) (v := ?_) rfl (by kernel_rfl) (by kernel_rfl) (by kernel_rfl) (fun _ _ _ h => h) (Or.inl ⟨by kernel_rfl, ?_⟩) (by first | assumption | trivial) ?_
                    rotate_left
                    · intro w hSw
                      try dsimp only at hSw
                      first | (go_simp; done) | (go_simp; with_reducible rfl)
                    try simp only [Act.put, List.getElem_toArray, List.getElem_cons_succ, List.getElem_cons_zero, List.setIfInBounds_toArray, List.set_cons_zero, List.set_cons_succ]
                    refine wpAnyH_ready (rs := [9]) (by kernel_rfl) (by simp) ?_
                    refine AllReadyH.cons rfl (fun K hK => ?_) AllReadyH.nil
                    have z0 : q2.cell? ⟨g12, 0, none⟩ = some (.int .i64 0) := HA_2.out.cell 0
                    have z1 : q2.cell? ⟨g12, 1, none⟩ = some (.slice none 0 0) := HA_2.out.cell 1
                    have z2 : q2.cell? ⟨g12, 2, none⟩ = some (.slice none 0 0) := HA_2.out.cell 2
                    have f0 := HA_2.out.free 0
                    have f1 := HA_2.out.free 1
                    have f2 := HA_2.out.free 2
                    have HA_3 := Lib.hid (st3_blk HA_2.out rfl (.int .i64 mm) (.slice p3 n3 c3) (.slice qq aa bb))
                    have HR_3 := Lib.hid (row_st3N HR_2.out HNE.out (.int .i64 mm) (.slice p3 n3 c3) (.slice qq aa bb))
                    have HF3 := Lib.hid (st3_below (g := g12) HF2.out HGE.out (.int .i64 mm) (.slice p3 n3 c3) (.slice qq aa bb))
                    unfold st3 at HA_3 HR_3 HF3
                    go_simp
                    generalize (((q2.setCell ⟨g12, 0, none⟩ (.int .i64 mm)).setCell ⟨g12, 1, none⟩ (.slice p3 n3 c3)).setCell ⟨g12, 2, none⟩ (.slice qq aa bb)) = q3 at *
                    clear z0 z1 z2 f0 f1 f2
                    refine hK.out _ _ (HS.out q3 HF3.out) (fun hS => ?_)
                    clear hK K
                    try simp only [Act.put, List.getElem_toArray, List.getElem_cons_succ, List.getElem_cons_zero, List.setIfInBounds_toArray, List.set_cons_zero, List.set_cons_succ]
                    refine wpAnyH_take (i := 10) (v := ?_) rfl (by kernel_rfl) (by kernel_rfl) (by kernel_rfl) (fun _ _ _ h => h) (Or.inl ⟨by kernel_rfl, ?_⟩) (by first | assumption | trivial) ?_
                    rotate_left
                    · intro w hSw
                      try dsimp only at hSw
                      first | (go_simp; done) | (go_simp; with_reducible rfl)
                    try simp only [Act.put, List.getElem_toArray, List.getElem_cons_succ, List.getElem_cons_zero, List.setIfInBounds_toArray, List.set_cons_zero, List.set_cons_succ]
                    refine wpAnyH_done (by kernel_rfl) ?_ _
                    have HZ9 := Lib.hid (HZ2.out.kept HF3.out)
                    have HX9 := Lib.hid (HX2.out.below HF3.out HX2.out.lt)
                    have HW9 := Lib.hid (HW2.out.trans (HF3.out.mono HW2.out.size))
                    by_cases hee : ee = 0
                    · subst hee
                      have b0 : q3.cell? ⟨g12, 0, none⟩ = some (.int .i64 mm) := HA_3.out.cell 0
                      have b1 : q3.cell? ⟨g12, 1, none⟩ = some (.slice p3 n3 c3) := HA_3.out.cell 1
                      have b2 : q3.cell? ⟨g12, 2, none⟩ = some (.slice qq aa bb) := HA_3.out.cell 2
                      have HTH := Lib.hid (HZ9.out.there hj3)
                      have HNX : Hid (Zr w1.heap.size 3 (3 * k + (j + 1)) (bs.set j ⟨mm, p3, n3, c3, qq, aa, bb, putX mm XS x⟩) (q3.setCells w1.heap.size (j * 3) (encB.E ⟨mm, p3, n3, c3, qq, aa, bb, putX mm XS x⟩)) ∧ Blk (q3.setCells w1.heap.size (j * 3) (encB.E ⟨mm, p3, n3, c3, qq, aa, bb, putX mm XS x⟩)) gx #[.int .i64 x.s, .int .i64 x.n, .int .i64 x.b, .int .i64 x.c, .int .i64 x.a, .int .i64 x.r, .int .i64 x.t, .int .i64 x.y] 39 ∧ Below w1.heap.size w1 (q3.setCells w1.heap.size (j * 3) (encB.E ⟨mm, p3, n3, c3, qq, aa, bb, putX mm XS x⟩))) := ⟨HZ9.out.put hj3 (HBP.out q3 p3 n3 c3 rfl HR_3.out HN3.out HF3.out HO3.out) (by omega) (fun j hj => .inl hj), blk_putOther (Nat.ne_of_lt HGX.out) _ _ _ HX9.out, below_put HGZ.out _ _ _ _ HW9.out⟩
                      clear HA_3 HR_3 HZ9 HX9 HW9 HBP HN3 HO3
                      go_wp2_with (with_reducible refine stop_storeT 26 (.tmp 87) (.tmp 86) rfl ?_)
                      refine wpList_store_mid rfl 26 (.tmp 87) (.tmp 86) rfl w1.heap.size (j * 3) #[.int .i64 mm, .slice p3 n3 c3, .slice qq aa bb] rfl rfl HTH.out HINF.out (all_oneCell_toArray (encB.one ⟨mm, p3, n3, c3, qq, aa, bb, putX mm XS x⟩)) ?_
                      replace HNX : Hid (Zr w1.heap.size 3 (3 * k + (j + 1)) (bs.set j ⟨mm, p3, n3, c3, qq, aa, bb, putX mm XS x⟩) (q3.setCells w1.heap.size (j * 3) (#[.int .i64 mm, .slice p3 n3 c3, .slice qq aa bb] : Array Value).toList) ∧ Blk (q3.setCells w1.heap.size (j * 3) (#[.int .i64 mm, .slice p3 n3 c3, .slice qq aa bb] : Array Value).toList) gx #[.int .i64 x.s, .int .i64 x.n, .int .i64 x.b, .int .i64 x.c, .int .i64 x.a, .int .i64 x.r, .int .i64 x.t, .int .i64 x.y] 39 ∧ Below w1.heap.size w1 (q3.setCells w1.heap.size (j * 3) (#[.int .i64 mm, .slice p3 n3 c3, .slice qq aa bb] : Array Value).toList)) := HNX
                      generalize World.setCells q3 w1.heap.size (j * 3) _ = W7 at *
                      clear HTH b0 b1 b2
                      go_wp2_with fail
                      go_roundw
                      case rel => exact ⟨j + 1, _, by omega, by go_num, HNX⟩
                      case measure => simp [intOf]; omega
                    · have HNX : Hid (Zr w1.heap.size 3 (3 * k + (j + 1)) bs q3 ∧ Blk q3 gx #[.int .i64 x.s, .int .i64 x.n, .int .i64 x.b, .int .i64 x.c, .int .i64 x.a, .int .i64 x.r, .int .i64 x.t, .int .i64 x.y] 39 ∧ Below w1.heap.size w1 q3) := ⟨HZ9.out.more (by omega), HX9.out, HW9.out⟩
                      have e0 : (ee == 0) = false := by simpa using hee
                      clear HA_3 HR_3 HZ9 HX9 HW9 HBP HN3 HO3 hee
                      go_wp2_with fail
                      go_roundw
                      case rel => exact ⟨j + 1, _, by omega, by go_num, HNX⟩
                      case measure => simp [intOf]; omega
            · have hj3I : (3 : Int) ≤ (j : Int) := by omega
              have hje : j = 3 := by omega
              have HNX : Hid (Zr w1.heap.size 3 (3 * (k + 1)) bs wr ∧ Below w1.heap.size w1 wr) := ⟨HZ.out.1.more (by omega), HZ.out.2.2⟩
              clear HZ
              go_wp2_with fail
              go_roundw
              case rel => exact ⟨k + 1, bs, by omega, by go_num, HNX⟩
              case measure => simp [intOf]; omega
        · have hle : (n1 : Int) ≤ (k : Int) := by omega
          have HZ3 : Hid (Zr w1.heap.size 3 200 bs wr ∧ Below w1.heap.size w1 wr) := ⟨HZ.out.1.more (by omega), HZ.out.2⟩
          clear HZ
          obtain ⟨x, y, z, hbs, hx, hy, hz⟩ := HZ3.out.1.three
          subst hbs
          have HX := Lib.hid hx
          have HY := Lib.hid hy
          have HZZ := Lib.hid hz
          have HIN : Hid (∀ b ∈ [x, y, z], b.In wr) := fun b hb => by
            simp only [List.mem_cons, List.not_mem_nil, or_false] at hb
            rcases hb with rfl | rfl | rfl
            · exact hx.inw
            · exact hy.inw
            · exact hz.inw
          clear hx hy hz
          have HTR := Lib.hid (three_row x y z (Blk.new wr #[.int .i64 x.me, .slice x.p x.n x.c, .slice x.q x.a x.b, .int .i64 y.me, .slice y.p y.n y.c, .slice y.q y.a y.b, .int .i64 z.me, .slice z.p z.n z.c, .slice z.q z.a z.b] 26))
          have HEV := Lib.hid (even_any _ cur _ _ HTR.out (fun b hb => (HIN.out b hb).kept (oneB wr _)) (by simp))
          have HB24 := Lib.hid (oneB wr (.cells #[.int .i64 x.me, .slice x.p x.n x.c, .slice x.q x.a x.b, .int .i64 y.me, .slice y.p y.n y.c, .slice y.q y.a y.b, .int .i64 z.me, .slice z.p z.n z.c, .slice z.q z.a z.b] 26))
          have HZERO : Hid (evenB cur [x, y, z] = true → openS cur x + openS cur y + openS cur z = 0) := fun h => zero_all HX.out HY.out HZZ.out h
          have x0 : wr.cell? ⟨w1.heap.size, 0, none⟩ = some (.int .i64 x.me) := (HZ3.out.1.cells (i := 0) (by simp)).1
          have x1 : wr.cell? ⟨w1.heap.size, 1, none⟩ = some (.slice x.p x.n x.c) := (HZ3.out.1.cells (i := 0) (by simp)).2.1
          have x2 : wr.cell? ⟨w1.heap.size, 2, none⟩ = some (.slice x.q x.a x.b) := (HZ3.out.1.cells (i := 0) (by simp)).2.2
          have y0 : wr.cell? ⟨w1.heap.size, 3, none⟩ = some (.int .i64 y.me) := (HZ3.out.1.cells (i := 1) (by simp)).1
          have y1 : wr.cell? ⟨w1.heap.size, 4, none⟩ = some (.slice y.p y.n y.c) := (HZ3.out.1.cells (i := 1) (by simp)).2.1
          have y2 : wr.cell? ⟨w1.heap.size, 5, none⟩ = some (.slice y.q y.a y.b) := (HZ3.out.1.cells (i := 1) (by simp)).2.2
          have z0 : wr.cell? ⟨w1.heap.size, 6, none⟩ = some (.int .i64 z.me) := (HZ3.out.1.cells (i := 2) (by simp)).1
          have z1 : wr.cell? ⟨w1.heap.size, 7, none⟩ = some (.slice z.p z.n z.c) := (HZ3.out.1.cells (i := 2) (by simp)).2.1
          have z2 : wr.cell? ⟨w1.heap.size, 8, none⟩ = some (.slice z.q z.a z.b) := (HZ3.out.1.cells (i := 2) (by simp)).2.2
          go_wp2_with fail
          clear x0 x1 x2 y0 y1 y2 z0 z1 z2
          generalize wr.alloc (.cells #[.int .i64 x.me, .slice x.p x.n x.c, .slice x.q x.a x.b, .int .i64 y.me, .slice y.p y.n y.c, .slice y.q y.a y.b, .int .i64 z.me, .slice z.p z.n z.c, .slice z.q z.a z.b] 26) = W24 at *
          refine HEV.out.mono ?_
          rintro q w3 ⟨rfl, hb3⟩
          have HB3 := Lib.hid (HB24.out.trans (hb3.mono HB24.out.size))
          clear hb3 HEV HTR HB24
          have HZ4 : Hid (Zr w1.heap.size 3 200 [x, y, z] w3 ∧ Below w1.heap.size w1 w3) := ⟨HZ3.out.1.kept HB3.out, HZ3.out.2.trans (HB3.out.mono HZ3.out.2.size)⟩
          have HIN4 : Hid (∀ b ∈ [x, y, z], b.In w3) := fun b hb => (HIN.out b hb).kept HB3.out
          have hmx := HX.out.me
          have hmy := HY.out.me
          have hmz := HZZ.out.me
          have hme : ∀ b ∈ [x, y, z], 0 ≤ b.me ∧ b.me < 8 := fun b hb => by
            simp only [List.mem_cons, List.not_mem_nil, or_false] at hb
            rcases hb with rfl | rfl | rfl <;> omega
          have hpair : [x, y, z].Pairwise (fun x y => x.me < y.me) := by
            simp only [List.pairwise_cons, List.mem_cons, List.not_mem_nil, or_false, forall_eq_or_imp, forall_eq, false_implies, implies_true, List.Pairwise.nil, and_true]
            omega
          have HTR := Lib.hid (three_row x y z (Blk.new w3 #[.int .i64 x.me, .slice x.p x.n x.c, .slice x.q x.a x.b, .int .i64 y.me, .slice y.p y.n y.c, .slice y.q y.a y.b, .int .i64 z.me, .slice z.p z.n z.c, .slice z.q z.a z.b] 26))
          have HB25 := Lib.hid (oneB w3 (.cells #[.int .i64 x.me, .slice x.p x.n x.c, .slice x.q x.a x.b, .int .i64 y.me, .slice y.p y.n y.c, .slice y.q y.a y.b, .int .i64 z.me, .slice z.p z.n z.c, .slice z.q z.a z.b] 26))
          have HGR := Lib.hid (group_in _ cur _ _ HTR.out (fun b hb => (HIN4.out b hb).kept HB25.out) (by simp) ⟨by omega, by omega⟩ hme hpair)
          have hfit : ∀ b ∈ [x, y, z], -2251799813685248000 ≤ openS cur b ∧ openS cur b ≤ 2251799813685248000 := fun b hb => open_small (HIN4.out b hb).ok (HIN4.out b hb).small
          have hsum : Fits (amtsC cur (grpL cur [x, y, z])).sum := by
            rw [grp_sum]
            have g1 := hfit x (by simp)
            have g2 := hfit y (by simp)
            have g3 := hfit z (by simp)
            unfold Fits
            omega
          have HTOT := Lib.hid (fun W v (h : PRow W v (grpL cur [x, y, z])) => totalL_any W v _ cur (by have := grpL_len cur [x, y, z]; simp at this; omega) (fun p hp => by
            obtain ⟨b, hb, rfl⟩ := grpL_mem hp
            have := hfit b hb
            show Fits (openS cur b)
            unfold Fits
            omega) h)
          rw [sumN_yes hsum, sumE_yes hsum, grp_sum] at HTOT
          unfold vecV at HGR HTOT
          clear hme hpair hfit hsum hmx hmy hmz HX HY HZZ HIN HIN4 HZ3 HB3
          generalize hev : evenB cur [x, y, z] = EV at *
          have HEVB := Lib.hid hev
          clear hev
          generalize openS cur x + openS cur y + openS cur z = T at *
          have x0 : w3.cell? ⟨w1.heap.size, 0, none⟩ = some (.int .i64 x.me) := (HZ4.out.1.cells (i := 0) (by simp)).1
          have x1 : w3.cell? ⟨w1.heap.size, 1, none⟩ = some (.slice x.p x.n x.c) := (HZ4.out.1.cells (i := 0) (by simp)).2.1
          have x2 : w3.cell? ⟨w1.heap.size, 2, none⟩ = some (.slice x.q x.a x.b) := (HZ4.out.1.cells (i := 0) (by simp)).2.2
          have y0 : w3.cell? ⟨w1.heap.size, 3, none⟩ = some (.int .i64 y.me) := (HZ4.out.1.cells (i := 1) (by simp)).1
          have y1 : w3.cell? ⟨w1.heap.size, 4, none⟩ = some (.slice y.p y.n y.c) := (HZ4.out.1.cells (i := 1) (by simp)).2.1
          have y2 : w3.cell? ⟨w1.heap.size, 5, none⟩ = some (.slice y.q y.a y.b) := (HZ4.out.1.cells (i := 1) (by simp)).2.2
          have z0 : w3.cell? ⟨w1.heap.size, 6, none⟩ = some (.int .i64 z.me) := (HZ4.out.1.cells (i := 2) (by simp)).1
          have z1 : w3.cell? ⟨w1.heap.size, 7, none⟩ = some (.slice z.p z.n z.c) := (HZ4.out.1.cells (i := 2) (by simp)).2.1
          have z2 : w3.cell? ⟨w1.heap.size, 8, none⟩ = some (.slice z.q z.a z.b) := (HZ4.out.1.cells (i := 2) (by simp)).2.2
          go_wp2_with fail
          clear x0 x1 x2 y0 y1 y2 z0 z1 z2
          generalize w3.alloc (.cells #[.int .i64 x.me, .slice x.p x.n x.c, .slice x.q x.a x.b, .int .i64 y.me, .slice y.p y.n y.c, .slice y.q y.a y.b, .int .i64 z.me, .slice z.p z.n z.c, .slice z.q z.a z.b] 26) = W25 at *
          refine HGR.out.mono ?_
          rintro q w7 ⟨v7, rfl, hr7, hb7⟩
          have HR7 := Lib.hid hr7
          obtain ⟨p7, c7, hv7⟩ := hr7.shape
          generalize (grpL cur [x, y, z]).length = nl at hv7
          subst hv7
          have HB7 := Lib.hid (HB25.out.trans (hb7.mono HB25.out.size))
          clear hr7 hb7 HGR HTR HB25
          go_upto_region 26 with fail
          have HV := Lib.hid (Blk.new w7 #[.slice p7 nl c7] 50)
          have HBV := Lib.hid (HB7.out.trans ((oneB w7 (.cells #[.slice p7 nl c7] 50)).mono HB7.out.size))
          have HRV := Lib.hid (HR7.out.kept (oneB w7 (.cells #[.slice p7 nl c7] 50)))
          generalize w7.alloc (.cells #[.slice p7 nl c7] 50) = W8 at *
          generalize w7.heap.size = gv at *
          have HZ8 : Hid (Zr w1.heap.size 3 200 [x, y, z] W8 ∧ Below w1.heap.size w1 W8) := ⟨HZ4.out.1.kept HBV.out, HZ4.out.2.trans (HBV.out.mono HZ4.out.2.size)⟩
          have v0 : W8.cell? ⟨gv, 0, none⟩ = some (.slice p7 nl c7) := HV.out.cell 0
          have HTO := Lib.hid (HTOT.out W8 _ HRV.out)
          clear HB7 HR7 HBV HRV HTOT HV HZ4
          go_wp2_with fail
          refine HTO.out.mono ?_
          rintro q w9 ⟨rfl, hb9⟩
          have HR4 : Hid (Zr w1.heap.size 3 200 [x, y, z] w9 ∧ Below w1.heap.size w1 w9) := ⟨HZ8.out.1.kept hb9, HZ8.out.2.trans (hb9.mono HZ8.out.2.size)⟩
          clear hb9 HTO HZ8 v0
          generalize [x, y, z] = bs at *
          cases EV
          · clear HZERO HEVB
            go_wp2_with fail
            go_loopw [128] (fun i wr => ∃ a : Nat, a ≤ 3 ∧ i = .int .i64 a ∧ Hid (Zr w1.heap.size 3 200 bs wr ∧ Below w1.heap.size w1 wr)) (fun i _ => 3 - (intOf i).toNat)
            case atStart => exact ⟨0, by omega, rfl, HR4⟩
            case round =>
              obtain ⟨a, ha, rfl, HZ⟩ := hrel
              clear HR4
              by_cases ha3 : a < 3
              · have haI : (a : Int) < 3 := by omega
                have hal : a < bs.length := by rw [HZ.out.1.len]; exact ha3
                have HR5 := HZ
                clear HZ
                go_wp2_with fail
                go_loopw [131] (fun i wr => ∃ b : Nat, b ≤ 3 ∧ i = .int .i64 b ∧ Hid (Zr w1.heap.size 3 200 bs wr ∧ Below w1.heap.size w1 wr)) (fun i _ => 3 - (intOf i).toNat)
                case atStart => exact ⟨0, by omega, rfl, HR5⟩
                case round =>
                  obtain ⟨b, hb, rfl, HZ⟩ := hrel
                  clear HR5
                  by_cases hb3 : b < 3
                  · have hbI : (b : Int) < 3 := by omega
                    have hbl : b < bs.length := by rw [HZ.out.1.len]; exact hb3
                    by_cases hab : a = b
                    · have e1 : ((a : Int) == (b : Int)) = true := by rw [beq_iff_eq]; omega
                      clear hab
                      go_wp2_with fail
                      go_roundw
                      case rel => exact ⟨b + 1, by omega, by go_num, HZ⟩
                      case measure => simp [intOf]; omega
                    · have e1 : ((a : Int) == (b : Int)) = false := by rw [beq_eq_false_iff_ne]; omega
                      have HZ2 := Lib.hid HZ.out.1
                      have HW2 := Lib.hid HZ.out.2
                      clear HZ
                      obtain ⟨u0, u1, u2⟩ := HZ2.out.cells hal
                      obtain ⟨v0, v1, v2⟩ := HZ2.out.cells hbl
                      have HBA := Lib.hid (HZ2.out.bz a hal ha3)
                      have HBB := Lib.hid (HZ2.out.bz b hbl hb3)
                      have HLOOK := Lib.hid (fun W (h : Below wr.heap.size wr W) => look_any W bs[a].me bs[b].me cur bs[a].p bs[a].q bs[b].p bs[b].q bs[a].n bs[a].c bs[a].a bs[a].b bs[b].n bs[b].c bs[b].a bs[b].b bs[a].xs bs[b].xs (HBA.out.inw.row.kept h) (HBB.out.inw.row.kept h) HBA.out.inw.len HBB.out.inw.len HBA.out.inw.small HBB.out.inw.small HBA.out.inw.ok HBB.out.inw.ok)
                      clear HBA HBB hab
                      unfold lookV pairV bookV at HLOOK
                      generalize amtS (soldL bs[a].me bs[b].me cur bs[a].xs) = AX at *
                      generalize amtS (soldL bs[a].me bs[b].me cur bs[b].xs) = AY at *
                      generalize alikeB bs[a].me bs[b].me cur bs[a].xs bs[b].xs = AL at *
                      generalize bs[a].me = um at *
                      generalize bs[a].p = up at *
                      generalize bs[a].n = un at *
                      generalize bs[a].c = uc at *
                      generalize bs[a].q = uq at *
                      generalize bs[a].a = ua at *
                      generalize bs[a].b = ub at *
                      generalize bs[b].me = vm at *
                      generalize bs[b].p = vp at *
                      generalize bs[b].n = vn at *
                      generalize bs[b].c = vc at *
                      generalize bs[b].q = vq at *
                      generalize bs[b].a = va at *
                      generalize bs[b].b = vb at *
                      have hS1 : wr.drew.cell? ⟨w1.heap.size, a * 3, none⟩ = some (.int .i64 um) ∧ wr.drew.cell? ⟨w1.heap.size, a * 3 + 1, none⟩ = some (.slice up un uc) ∧ wr.drew.cell? ⟨w1.heap.size, a * 3 + 2, none⟩ = some (.slice uq ua ub) ∧ wr.drew.cell? ⟨w1.heap.size, b * 3, none⟩ = some (.int .i64 vm) ∧ wr.drew.cell? ⟨w1.heap.size, b * 3 + 1, none⟩ = some (.slice vp vn vc) ∧ wr.drew.cell? ⟨w1.heap.size, b * 3 + 2, none⟩ = some (.slice vq va vb) := ⟨u0, u1, u2, v0, v1, v2⟩
                      have HS : Hid (∀ w', Below wr.heap.size wr w' → w'.cell? ⟨w1.heap.size, a * 3, none⟩ = some (.int .i64 um) ∧ w'.cell? ⟨w1.heap.size, a * 3 + 1, none⟩ = some (.slice up un uc) ∧ w'.cell? ⟨w1.heap.size, a * 3 + 2, none⟩ = some (.slice uq ua ub) ∧ w'.cell? ⟨w1.heap.size, b * 3, none⟩ = some (.int .i64 vm) ∧ w'.cell? ⟨w1.heap.size, b * 3 + 1, none⟩ = some (.slice vp vn vc) ∧ w'.cell? ⟨w1.heap.size, b * 3 + 2, none⟩ = some (.slice vq va vb)) := fun w' h => ⟨(h.cell (p := ⟨w1.heap.size, a * 3, none⟩) HZ2.out.lt).trans u0, (h.cell (p := ⟨w1.heap.size, a * 3 + 1, none⟩) HZ2.out.lt).trans u1, (h.cell (p := ⟨w1.heap.size, a * 3 + 2, none⟩) HZ2.out.lt).trans u2, (h.cell (p := ⟨w1.heap.size, b * 3, none⟩) HZ2.out.lt).trans v0, (h.cell (p := ⟨w1.heap.size, b * 3 + 1, none⟩) HZ2.out.lt).trans v1, (h.cell (p := ⟨w1.heap.size, b * 3 + 2, none⟩) HZ2.out.lt).trans v2⟩
                      have HF0 := Lib.hid ((Below.refl wr.heap.size wr).drew)
                      clear u0 u1 u2 v0 v1 v2
                      go_upto_region 38 with fail
                      generalize hW2 : wr = W2 at *
                      clear hW2
                      refine wp_region_held_drew (S := fun w' => w'.cell? ⟨w1.heap.size, a * 3, none⟩ = some (.int .i64 um) ∧ w'.cell? ⟨w1.heap.size, a * 3 + 1, none⟩ = some (.slice up un uc) ∧ w'.cell? ⟨w1.heap.size, a * 3 + 2, none⟩ = some (.slice uq ua ub) ∧ w'.cell? ⟨w1.heap.size, b * 3, none⟩ = some (.int .i64 vm) ∧ w'.cell? ⟨w1.heap.size, b * 3 + 1, none⟩ = some (.slice vp vn vc) ∧ w'.cell? ⟨w1.heap.size, b * 3 + 2, none⟩ = some (.slice vq va vb)) (by kernel_rfl) hS1 (fun hS0 => ?_)
                      refine wpAnyH_take (i := 0) (v := ?_) rfl (by kernel_rfl) (by kernel_rfl) (by kernel_rfl) (fun _ _ _ h => h) (Or.inl ⟨by kernel_rfl, ?_⟩) (by first | assumption | trivial) ?_
                      rotate_left
                      · intro w hSw
                        try dsimp only at hSw
                        first | (go_simp; done) | (go_simp; with_reducible rfl)
                      try simp only [Act.put, List.getElem_toArray, List.getElem_cons_succ, List.getElem_cons_zero, List.setIfInBounds_toArray, List.set_cons_zero, List.set_cons_succ]
                      refine wpAnyH_take (i := 1) (v := ?_) rfl (by kernel_rfl) (by kernel_rfl) (by kernel_rfl) (fun _ _ _ h => h) (Or.inl ⟨by kernel_rfl, ?_⟩) (by first | assumption | trivial) ?_
                      rotate_left
                      · intro w hSw
                        try dsimp only at hSw
                        first | (go_simp; done) | (go_simp; with_reducible rfl)
                      try simp only [Act.put, List.getElem_toArray, List.getElem_cons_succ, List.getElem_cons_zero, List.setIfInBounds_toArray, List.set_cons_zero, List.set_cons_succ]
                      refine wpAnyH_take (i := 2) (v := ?_) rfl (by kernel_rfl) (by kernel_rfl) (by kernel_rfl) (fun _ _ _ h => h) (Or.inl ⟨by kernel_rfl, ?_⟩) (by first | assumption | trivial) ?_
                      rotate_left
                      · intro w hSw
                        try dsimp only at hSw
                        first | (go_simp; done) | (go_simp; with_reducible rfl)
                      try simp only [Act.put, List.getElem_toArray, List.getElem_cons_succ, List.getElem_cons_zero, List.setIfInBounds_toArray, List.set_cons_zero, List.set_cons_succ]
                      refine wpAnyH_take (i := 3) (v := ?_) rfl (by kernel_rfl) (by kernel_rfl) (by kernel_rfl) (fun _ _ _ h => h) (Or.inl ⟨by kernel_rfl, ?_⟩) (by first | assumption | trivial) ?_
                      rotate_left
                      · intro w hSw
                        try dsimp only at hSw
                        first | (go_simp; done) | (go_simp; with_reducible rfl)
                      try simp only [Act.put, List.getElem_toArray, List.getElem_cons_succ, List.getElem_cons_zero, List.setIfInBounds_toArray, List.set_cons_zero, List.set_cons_succ]
                      refine wpAnyH_take (i := 4) (v := ?_) rfl (by kernel_rfl) (by kernel_rfl) (by kernel_rfl) (fun _ _ _ h => h) (Or.inl ⟨by kernel_rfl, ?_⟩) (by first | assumption | trivial) ?_
                      rotate_left
                      · intro w hSw
                        try dsimp only at hSw
                        first | (go_simp; done) | (go_simp; with_reducible rfl)
                      try simp only [Act.put, List.getElem_toArray, List.getElem_cons_succ, List.getElem_cons_zero, List.setIfInBounds_toArray, List.set_cons_zero, List.set_cons_succ]
                      refine wpAnyH_take (i := 5) (v := ?_) rfl (by kernel_rfl) (by kernel_rfl) (by kernel_rfl) (fun _ _ _ h => h) (Or.inl ⟨by kernel_rfl, ?_⟩) (by first | assumption | trivial) ?_
                      rotate_left
                      · intro w hSw
                        try dsimp only at hSw
                        first | (go_simp; done) | (go_simp; with_reducible rfl)
                      try simp only [Act.put, List.getElem_toArray, List.getElem_cons_succ, List.getElem_cons_zero, List.setIfInBounds_toArray, List.set_cons_zero, List.set_cons_succ]
                      refine wpAnyH_take (i := 6) (v := ?_) rfl (by kernel_rfl) (by kernel_rfl) (by kernel_rfl) (fun _ _ _ h => h) (Or.inl ⟨by kernel_rfl, ?_⟩) (by first | assumption | trivial) ?_
                      rotate_left
                      · intro w hSw
                        try dsimp only at hSw
                        first | (go_simp; done) | (go_simp; with_reducible rfl)
                      try simp only [Act.put, List.getElem_toArray, List.getElem_cons_succ, List.getElem_cons_zero, List.setIfInBounds_toArray, List.set_cons_zero, List.set_cons_succ]
                      generalize W2.drew = q0 at *
                      refine wpAnyH_ready (rs := [7, 11]) (by kernel_rfl) (by simp) ?_
                      refine AllReadyH.cons rfl (fun K hK => ?_) (AllReadyH.cons rfl (fun K hK => ?_) AllReadyH.nil)
                      · skip
                        go_simp
                        go_at_call 10
                        refine (HLOOK.out q0 HF0.out).mono ?_
                        rintro y q1 ⟨rfl, hb⟩
                        have HF1 := Lib.hid (HF0.out.trans (hb.mono HF0.out.size))
                        clear hb
                        try go_wp2_with fail
                        refine hK.out _ _ (HS.out q1 HF1.out) (fun hS => ?_)
                        clear hK K
                        try simp only [Act.put, List.getElem_toArray, List.getElem_cons_succ, List.getElem_cons_zero, List.setIfInBounds_toArray, List.set_cons_zero, List.set_cons_succ]
                        refine wpAnyH_take (i := 8) (v := ?_) rfl (by kernel_rfl) (by kernel_rfl) (by kernel_rfl) (fun _ _ _ h => h) (Or.inl ⟨by kernel_rfl, ?_⟩) (by first | assumption | trivial) ?_
                        rotate_left
                        · intro w hSw
                          try dsimp only at hSw
                          first | (go_simp; done) | (go_simp; with_reducible rfl)
                        try simp only [Act.put, List.getElem_toArray, List.getElem_cons_succ, List.getElem_cons_zero, List.setIfInBounds_toArray, List.set_cons_zero, List.set_cons_succ]
                        refine wpAnyH_take (i := 9) (v := ?_) rfl (by kernel_rfl) (by kernel_rfl) (by kernel_rfl) (fun _ _ _ h => h) (Or.inl ⟨by kernel_rfl, ?_⟩) (by first | assumption | trivial) ?_
                        rotate_left
                        · intro w hSw
                          try dsimp only at hSw
                          first | (go_simp; done) | (go_simp; with_reducible rfl)
                        try simp only [Act.put, List.getElem_toArray, List.getElem_cons_succ, List.getElem_cons_zero, List.setIfInBounds_toArray, List.set_cons_zero, List.set_cons_succ]
                        refine wpAnyH_take (i := 10) (v := ?_) rfl (by kernel_rfl) (by kernel_rfl) (by kernel_rfl) (fun _ _ _ h => h) (Or.inl ⟨by kernel_rfl, ?_⟩) (by first | assumption | trivial) ?_
                        rotate_left
                        · intro w hSw
                          try dsimp only at hSw
                          first | (go_simp; done) | (go_simp; with_reducible rfl)
                        try simp only [Act.put, List.getElem_toArray, List.getElem_cons_succ, List.getElem_cons_zero, List.setIfInBounds_toArray, List.set_cons_zero, List.set_cons_succ]
                        refine wpAnyH_ready (rs := [11]) (by kernel_rfl) (by simp) ?_
                        refine AllReadyH.cons rfl (fun K hK => ?_) AllReadyH.nil
                        go_simp
                        have hb := oneB q1 (.cells #[.int .i64 0, .int .i64 0, .int .i64 0, .int .i64 0, .bool false] 30)
                        have HF2 := Lib.hid (HF1.out.trans (hb.mono HF1.out.size))
                        have HA_2 := Lib.hid (Blk.new q1 #[.int .i64 0, .int .i64 0, .int .i64 0, .int .i64 0, .bool false] 30)
                        have HGE : Hid (W2.heap.size ≤ q1.heap.size) := HF1.out.size
                        clear hb
                        generalize q1.alloc (.cells #[.int .i64 0, .int .i64 0, .int .i64 0, .int .i64 0, .bool false] 30) = q2 at *
                        generalize q1.heap.size = g21 at *
                        refine hK.out _ _ (HS.out q2 HF2.out) (fun hS => ?_)
                        clear hK K
                        try simp only [Act.put, List.getElem_toArray, List.getElem_cons_succ, List.getElem_cons_zero, List.setIfInBounds_toArray, List.set_cons_zero, List.set_cons_succ]
                        refine wpAnyH_ready (rs := [12]) (by kernel_rfl) (by simp) ?_
                        refine AllReadyH.cons rfl (fun K hK => ?_) AllReadyH.nil
                        have z0 : q2.cell? ⟨g21, 0, none⟩ = some (.int .i64 0) := HA_2.out.cell 0
                        have z1 : q2.cell? ⟨g21, 1, none⟩ = some (.int .i64 0) := HA_2.out.cell 1
                        have z2 : q2.cell? ⟨g21, 2, none⟩ = some (.int .i64 0) := HA_2.out.cell 2
                        have z3 : q2.cell? ⟨g21, 3, none⟩ = some (.int .i64 0) := HA_2.out.cell 3
                        have z4 : q2.cell? ⟨g21, 4, none⟩ = some (.bool false) := HA_2.out.cell 4
                        have f0 := HA_2.out.free 0
                        have f1 := HA_2.out.free 1
                        have f2 := HA_2.out.free 2
                        have f3 := HA_2.out.free 3
                        have f4 := HA_2.out.free 4
                        have HA_3 := Lib.hid (st5_blk HA_2.out rfl (.int .i64 um) (.int .i64 vm) (.int .i64 AX) (.int .i64 AY) (.bool AL))
                        have HF3 := Lib.hid (st5_below (g := g21) HF2.out HGE.out (.int .i64 um) (.int .i64 vm) (.int .i64 AX) (.int .i64 AY) (.bool AL))
                        unfold st5 at HA_3 HF3
                        go_simp
                        generalize (((((q2.setCell ⟨g21, 0, none⟩ (.int .i64 um)).setCell ⟨g21, 1, none⟩ (.int .i64 vm)).setCell ⟨g21, 2, none⟩ (.int .i64 AX)).setCell ⟨g21, 3, none⟩ (.int .i64 AY)).setCell ⟨g21, 4, none⟩ (.bool AL)) = q3 at *
                        clear z0 z1 z2 z3 z4 f0 f1 f2 f3 f4
                        refine hK.out _ _ (HS.out q3 HF3.out) (fun hS => ?_)
                        clear hK K
                        try simp only [Act.put, List.getElem_toArray, List.getElem_cons_succ, List.getElem_cons_zero, List.setIfInBounds_toArray, List.set_cons_zero, List.set_cons_succ]
                        refine wpAnyH_take (i := 13) (v := ?_) rfl (by kernel_rfl) (by kernel_rfl) (by kernel_rfl) (fun _ _ _ h => h) (Or.inl ⟨by kernel_rfl, ?_⟩) (by first | assumption | trivial) ?_
                        rotate_left
                        · intro w hSw
                          try dsimp only at hSw
                          first | (go_simp; done) | (go_simp; with_reducible rfl)
                        try simp only [Act.put, List.getElem_toArray, List.getElem_cons_succ, List.getElem_cons_zero, List.setIfInBounds_toArray, List.set_cons_zero, List.set_cons_succ]
                        refine wpAnyH_done (by kernel_rfl) ?_ _
                        have HNX : Hid (Zr w1.heap.size 3 200 bs q3 ∧ Below w1.heap.size w1 q3) := ⟨HZ2.out.kept HF3.out, HW2.out.trans (HF3.out.mono HW2.out.size)⟩
                        have s2 : q3.cell? ⟨g21, 2, none⟩ = some (.int .i64 AX) := HA_3.out.cell 2
                        have s3 : q3.cell? ⟨g21, 3, none⟩ = some (.int .i64 AY) := HA_3.out.cell 3
                        have s4 : q3.cell? ⟨g21, 4, none⟩ = some (.bool AL) := HA_3.out.cell 4
                        have eyy : ((AX : Int) == AX) = true := by simp
                        clear HZ2 HW2 HA_3
                        go_wp2_with fail
                        go_roundw
                        case rel => exact ⟨b + 1, by omega, by go_num, HNX⟩
                        case measure => simp [intOf]; omega
                      · skip
                        go_simp
                        have hb := oneB q0 (.cells #[.int .i64 0, .int .i64 0, .int .i64 0, .int .i64 0, .bool false] 30)
                        have HF1 := Lib.hid (HF0.out.trans (hb.mono HF0.out.size))
                        have HA_1 := Lib.hid (Blk.new q0 #[.int .i64 0, .int .i64 0, .int .i64 0, .int .i64 0, .bool false] 30)
                        have HGE : Hid (W2.heap.size ≤ q0.heap.size) := HF0.out.size
                        clear hb
                        generalize q0.alloc (.cells #[.int .i64 0, .int .i64 0, .int .i64 0, .int .i64 0, .bool false] 30) = q1 at *
                        generalize q0.heap.size = g21 at *
                        refine hK.out _ _ (HS.out q1 HF1.out) (fun hS => ?_)
                        clear hK K
                        try simp only [Act.put, List.getElem_toArray, List.getElem_cons_succ, List.getElem_cons_zero, List.setIfInBounds_toArray, List.set_cons_zero, List.set_cons_succ]
                        refine wpAnyH_ready (rs := [7]) (by kernel_rfl) (by simp) ?_
                        refine AllReadyH.cons rfl (fun K hK => ?_) AllReadyH.nil
                        go_simp
                        go_at_call 10
                        refine (HLOOK.out q1 HF1.out).mono ?_
                        rintro y q2 ⟨rfl, hb⟩
                        have HF2 := Lib.hid (HF1.out.trans (hb.mono HF1.out.size))
                        have HA_2 := Lib.hid (HA_1.out.below hb HA_1.out.lt)
                        clear hb
                        try go_wp2_with fail
                        refine hK.out _ _ (HS.out q2 HF2.out) (fun hS => ?_)
                        clear hK K
                        try simp only [Act.put, List.getElem_toArray, List.getElem_cons_succ, List.getElem_cons_zero, List.setIfInBounds_toArray, List.set_cons_zero, List.set_cons_succ]
                        refine wpAnyH_take (i := 8) (v := ?_) rfl (by kernel_rfl) (by kernel_rfl) (by kernel_rfl) (fun _ _ _ h => h) (Or.inl ⟨by kernel_rfl, ?_⟩) (by first | assumption | trivial) ?_
                        rotate_left
                        · intro w hSw
                          try dsimp only at hSw
                          first | (go_simp; done) | (go_simp; with_reducible rfl)
                        try simp only [Act.put, List.getElem_toArray, List.getElem_cons_succ, List.getElem_cons_zero, List.setIfInBounds_toArray, List.set_cons_zero, List.set_cons_succ]
                        refine wpAnyH_take (i := 9) (v := ?_) rfl (by kernel_rfl) (by kernel_rfl) (by kernel_rfl) (fun _ _ _ h => h) (Or.inl ⟨by kernel_rfl, ?_⟩) (by first | assumption | trivial) ?_
                        rotate_left
                        · intro w hSw
                          try dsimp only at hSw
                          first | (go_simp; done) | (go_simp; with_reducible rfl)
                        try simp only [Act.put, List.getElem_toArray, List.getElem_cons_succ, List.getElem_cons_zero, List.setIfInBounds_toArray, List.set_cons_zero, List.set_cons_succ]
                        refine wpAnyH_take (i := 10) (v := ?_) rfl (by kernel_rfl) (by kernel_rfl) (by kernel_rfl) (fun _ _ _ h => h) (Or.inl ⟨by kernel_rfl, ?_⟩) (by first | assumption | trivial) ?_
                        rotate_left
                        · intro w hSw
                          try dsimp only at hSw
                          first | (go_simp; done) | (go_simp; with_reducible rfl)
                        try simp only [Act.put, List.getElem_toArray, List.getElem_cons_succ, List.getElem_cons_zero, List.setIfInBounds_toArray, List.set_cons_zero, List.set_cons_succ]
                        refine wpAnyH_ready (rs := [12]) (by kernel_rfl) (by simp) ?_
                        refine AllReadyH.cons rfl (fun K hK => ?_) AllReadyH.nil
                        have z0 : q2.cell? ⟨g21, 0, none⟩ = some (.int .i64 0) := HA_2.out.cell 0
                        have z1 : q2.cell? ⟨g21, 1, none⟩ = some (.int .i64 0) := HA_2.out.cell 1
                        have z2 : q2.cell? ⟨g21, 2, none⟩ = some (.int .i64 0) := HA_2.out.cell 2
                        have z3 : q2.cell? ⟨g21, 3, none⟩ = some (.int .i64 0) := HA_2.out.cell 3
                        have z4 : q2.cell? ⟨g21, 4, none⟩ = some (.bool false) := HA_2.out.cell 4
                        have f0 := HA_2.out.free 0
                        have f1 := HA_2.out.free 1
                        have f2 := HA_2.out.free 2
                        have f3 := HA_2.out.free 3
                        have f4 := HA_2.out.free 4
                        have HA_3 := Lib.hid (st5_blk HA_2.out rfl (.int .i64 um) (.int .i64 vm) (.int .i64 AX) (.int .i64 AY) (.bool AL))
                        have HF3 := Lib.hid (st5_below (g := g21) HF2.out HGE.out (.int .i64 um) (.int .i64 vm) (.int .i64 AX) (.int .i64 AY) (.bool AL))
                        unfold st5 at HA_3 HF3
                        go_simp
                        generalize (((((q2.setCell ⟨g21, 0, none⟩ (.int .i64 um)).setCell ⟨g21, 1, none⟩ (.int .i64 vm)).setCell ⟨g21, 2, none⟩ (.int .i64 AX)).setCell ⟨g21, 3, none⟩ (.int .i64 AY)).setCell ⟨g21, 4, none⟩ (.bool AL)) = q3 at *
                        clear z0 z1 z2 z3 z4 f0 f1 f2 f3 f4
                        refine hK.out _ _ (HS.out q3 HF3.out) (fun hS => ?_)
                        clear hK K
                        try simp only [Act.put, List.getElem_toArray, List.getElem_cons_succ, List.getElem_cons_zero, List.setIfInBounds_toArray, List.set_cons_zero, List.set_cons_succ]
                        refine wpAnyH_take (i := 13) (v := ?_) rfl (by kernel_rfl) (by kernel_rfl) (by kernel_rfl) (fun _ _ _ h => h) (Or.inl ⟨by kernel_rfl, ?_⟩) (by first | assumption | trivial) ?_
                        rotate_left
                        · intro w hSw
                          try dsimp only at hSw
                          first | (go_simp; done) | (go_simp; with_reducible rfl)
                        try simp only [Act.put, List.getElem_toArray, List.getElem_cons_succ, List.getElem_cons_zero, List.setIfInBounds_toArray, List.set_cons_zero, List.set_cons_succ]
                        refine wpAnyH_done (by kernel_rfl) ?_ _
                        have HNX : Hid (Zr w1.heap.size 3 200 bs q3 ∧ Below w1.heap.size w1 q3) := ⟨HZ2.out.kept HF3.out, HW2.out.trans (HF3.out.mono HW2.out.size)⟩
                        have s2 : q3.cell? ⟨g21, 2, none⟩ = some (.int .i64 AX) := HA_3.out.cell 2
                        have s3 : q3.cell? ⟨g21, 3, none⟩ = some (.int .i64 AY) := HA_3.out.cell 3
                        have s4 : q3.cell? ⟨g21, 4, none⟩ = some (.bool AL) := HA_3.out.cell 4
                        have eyy : ((AX : Int) == AX) = true := by simp
                        clear HZ2 HW2 HA_3
                        go_wp2_with fail
                        go_roundw
                        case rel => exact ⟨b + 1, by omega, by go_num, HNX⟩
                        case measure => simp [intOf]; omega
                  · have hbI : (3 : Int) ≤ (b : Int) := by omega
                    go_wp2_with fail
                    go_roundw
                    case rel => exact ⟨a + 1, by omega, by go_num, HZ⟩
                    case measure => simp [intOf]; omega
              · have haI : (3 : Int) ≤ (a : Int) := by omega
                have HOUT := Lib.hid (HB1.out.trans (HZ.out.2.mono HB1.out.size))
                clear HZ
                go_wp2_with fail
                go_ret
                exact ⟨rfl, HOUT.out⟩
          · have hT := HZERO.out rfl
            subst hT
            clear HZERO
            go_wp2_with fail
            go_loopw [128] (fun i wr => ∃ a : Nat, a ≤ 3 ∧ i = .int .i64 a ∧ Hid (Zr w1.heap.size 3 200 bs wr ∧ Below w1.heap.size w1 wr)) (fun i _ => 3 - (intOf i).toNat)
            case atStart => exact ⟨0, by omega, rfl, HR4⟩
            case round =>
              obtain ⟨a, ha, rfl, HZ⟩ := hrel
              clear HR4
              by_cases ha3 : a < 3
              · have haI : (a : Int) < 3 := by omega
                have hal : a < bs.length := by rw [HZ.out.1.len]; exact ha3
                have HR5 := HZ
                clear HZ
                go_wp2_with fail
                go_loopw [131] (fun i wr => ∃ b : Nat, b ≤ 3 ∧ i = .int .i64 b ∧ Hid (Zr w1.heap.size 3 200 bs wr ∧ Below w1.heap.size w1 wr)) (fun i _ => 3 - (intOf i).toNat)
                case atStart => exact ⟨0, by omega, rfl, HR5⟩
                case round =>
                  obtain ⟨b, hb, rfl, HZ⟩ := hrel
                  clear HR5
                  by_cases hb3 : b < 3
                  · have hbI : (b : Int) < 3 := by omega
                    have hbl : b < bs.length := by rw [HZ.out.1.len]; exact hb3
                    by_cases hab : a = b
                    · have e1 : ((a : Int) == (b : Int)) = true := by rw [beq_iff_eq]; omega
                      clear hab
                      go_wp2_with fail
                      go_roundw
                      case rel => exact ⟨b + 1, by omega, by go_num, HZ⟩
                      case measure => simp [intOf]; omega
                    · have e1 : ((a : Int) == (b : Int)) = false := by rw [beq_eq_false_iff_ne]; omega
                      have HZ2 := Lib.hid HZ.out.1
                      have HW2 := Lib.hid HZ.out.2
                      clear HZ
                      obtain ⟨u0, u1, u2⟩ := HZ2.out.cells hal
                      obtain ⟨v0, v1, v2⟩ := HZ2.out.cells hbl
                      have HBA := Lib.hid (HZ2.out.bz a hal ha3)
                      have HBB := Lib.hid (HZ2.out.bz b hbl hb3)
                      have hsame := zr_alike HZ2.out HEVB.out hal hbl hab
                      have HLOOK := Lib.hid (fun W (h : Below wr.heap.size wr W) => look_any W bs[a].me bs[b].me cur bs[a].p bs[a].q bs[b].p bs[b].q bs[a].n bs[a].c bs[a].a bs[a].b bs[b].n bs[b].c bs[b].a bs[b].b bs[a].xs bs[b].xs (HBA.out.inw.row.kept h) (HBB.out.inw.row.kept h) HBA.out.inw.len HBB.out.inw.len HBA.out.inw.small HBB.out.inw.small HBA.out.inw.ok HBB.out.inw.ok)
                      clear HBA HBB hab
                      unfold lookV pairV bookV at HLOOK
                      rw [hsame.1, ← hsame.2] at HLOOK
                      clear hsame
                      generalize amtS (soldL bs[a].me bs[b].me cur bs[a].xs) = AX at *
                      generalize bs[a].me = um at *
                      generalize bs[a].p = up at *
                      generalize bs[a].n = un at *
                      generalize bs[a].c = uc at *
                      generalize bs[a].q = uq at *
                      generalize bs[a].a = ua at *
                      generalize bs[a].b = ub at *
                      generalize bs[b].me = vm at *
                      generalize bs[b].p = vp at *
                      generalize bs[b].n = vn at *
                      generalize bs[b].c = vc at *
                      generalize bs[b].q = vq at *
                      generalize bs[b].a = va at *
                      generalize bs[b].b = vb at *
                      have hS1 : wr.drew.cell? ⟨w1.heap.size, a * 3, none⟩ = some (.int .i64 um) ∧ wr.drew.cell? ⟨w1.heap.size, a * 3 + 1, none⟩ = some (.slice up un uc) ∧ wr.drew.cell? ⟨w1.heap.size, a * 3 + 2, none⟩ = some (.slice uq ua ub) ∧ wr.drew.cell? ⟨w1.heap.size, b * 3, none⟩ = some (.int .i64 vm) ∧ wr.drew.cell? ⟨w1.heap.size, b * 3 + 1, none⟩ = some (.slice vp vn vc) ∧ wr.drew.cell? ⟨w1.heap.size, b * 3 + 2, none⟩ = some (.slice vq va vb) := ⟨u0, u1, u2, v0, v1, v2⟩
                      have HS : Hid (∀ w', Below wr.heap.size wr w' → w'.cell? ⟨w1.heap.size, a * 3, none⟩ = some (.int .i64 um) ∧ w'.cell? ⟨w1.heap.size, a * 3 + 1, none⟩ = some (.slice up un uc) ∧ w'.cell? ⟨w1.heap.size, a * 3 + 2, none⟩ = some (.slice uq ua ub) ∧ w'.cell? ⟨w1.heap.size, b * 3, none⟩ = some (.int .i64 vm) ∧ w'.cell? ⟨w1.heap.size, b * 3 + 1, none⟩ = some (.slice vp vn vc) ∧ w'.cell? ⟨w1.heap.size, b * 3 + 2, none⟩ = some (.slice vq va vb)) := fun w' h => ⟨(h.cell (p := ⟨w1.heap.size, a * 3, none⟩) HZ2.out.lt).trans u0, (h.cell (p := ⟨w1.heap.size, a * 3 + 1, none⟩) HZ2.out.lt).trans u1, (h.cell (p := ⟨w1.heap.size, a * 3 + 2, none⟩) HZ2.out.lt).trans u2, (h.cell (p := ⟨w1.heap.size, b * 3, none⟩) HZ2.out.lt).trans v0, (h.cell (p := ⟨w1.heap.size, b * 3 + 1, none⟩) HZ2.out.lt).trans v1, (h.cell (p := ⟨w1.heap.size, b * 3 + 2, none⟩) HZ2.out.lt).trans v2⟩
                      have HF0 := Lib.hid ((Below.refl wr.heap.size wr).drew)
                      clear u0 u1 u2 v0 v1 v2
                      go_upto_region 38 with fail
                      generalize hW2 : wr = W2 at *
                      clear hW2
                      refine wp_region_held_drew (S := fun w' => w'.cell? ⟨w1.heap.size, a * 3, none⟩ = some (.int .i64 um) ∧ w'.cell? ⟨w1.heap.size, a * 3 + 1, none⟩ = some (.slice up un uc) ∧ w'.cell? ⟨w1.heap.size, a * 3 + 2, none⟩ = some (.slice uq ua ub) ∧ w'.cell? ⟨w1.heap.size, b * 3, none⟩ = some (.int .i64 vm) ∧ w'.cell? ⟨w1.heap.size, b * 3 + 1, none⟩ = some (.slice vp vn vc) ∧ w'.cell? ⟨w1.heap.size, b * 3 + 2, none⟩ = some (.slice vq va vb)) (by kernel_rfl) hS1 (fun hS0 => ?_)
                      refine wpAnyH_take (i := 0) (v := ?_) rfl (by kernel_rfl) (by kernel_rfl) (by kernel_rfl) (fun _ _ _ h => h) (Or.inl ⟨by kernel_rfl, ?_⟩) (by first | assumption | trivial) ?_
                      rotate_left
                      · intro w hSw
                        try dsimp only at hSw
                        first | (go_simp; done) | (go_simp; with_reducible rfl)
                      try simp only [Act.put, List.getElem_toArray, List.getElem_cons_succ, List.getElem_cons_zero, List.setIfInBounds_toArray, List.set_cons_zero, List.set_cons_succ]
                      refine wpAnyH_take (i := 1) (v := ?_) rfl (by kernel_rfl) (by kernel_rfl) (by kernel_rfl) (fun _ _ _ h => h) (Or.inl ⟨by kernel_rfl, ?_⟩) (by first | assumption | trivial) ?_
                      rotate_left
                      · intro w hSw
                        try dsimp only at hSw
                        first | (go_simp; done) | (go_simp; with_reducible rfl)
                      try simp only [Act.put, List.getElem_toArray, List.getElem_cons_succ, List.getElem_cons_zero, List.setIfInBounds_toArray, List.set_cons_zero, List.set_cons_succ]
                      refine wpAnyH_take (i := 2) (v := ?_) rfl (by kernel_rfl) (by kernel_rfl) (by kernel_rfl) (fun _ _ _ h => h) (Or.inl ⟨by kernel_rfl, ?_⟩) (by first | assumption | trivial) ?_
                      rotate_left
                      · intro w hSw
                        try dsimp only at hSw
                        first | (go_simp; done) | (go_simp; with_reducible rfl)
                      try simp only [Act.put, List.getElem_toArray, List.getElem_cons_succ, List.getElem_cons_zero, List.setIfInBounds_toArray, List.set_cons_zero, List.set_cons_succ]
                      refine wpAnyH_take (i := 3) (v := ?_) rfl (by kernel_rfl) (by kernel_rfl) (by kernel_rfl) (fun _ _ _ h => h) (Or.inl ⟨by kernel_rfl, ?_⟩) (by first | assumption | trivial) ?_
                      rotate_left
                      · intro w hSw
                        try dsimp only at hSw
                        first | (go_simp; done) | (go_simp; with_reducible rfl)
                      try simp only [Act.put, List.getElem_toArray, List.getElem_cons_succ, List.getElem_cons_zero, List.setIfInBounds_toArray, List.set_cons_zero, List.set_cons_succ]
                      refine wpAnyH_take (i := 4) (v := ?_) rfl (by kernel_rfl) (by kernel_rfl) (by kernel_rfl) (fun _ _ _ h => h) (Or.inl ⟨by kernel_rfl, ?_⟩) (by first | assumption | trivial) ?_
                      rotate_left
                      · intro w hSw
                        try dsimp only at hSw
                        first | (go_simp; done) | (go_simp; with_reducible rfl)
                      try simp only [Act.put, List.getElem_toArray, List.getElem_cons_succ, List.getElem_cons_zero, List.setIfInBounds_toArray, List.set_cons_zero, List.set_cons_succ]
                      refine wpAnyH_take (i := 5) (v := ?_) rfl (by kernel_rfl) (by kernel_rfl) (by kernel_rfl) (fun _ _ _ h => h) (Or.inl ⟨by kernel_rfl, ?_⟩) (by first | assumption | trivial) ?_
                      rotate_left
                      · intro w hSw
                        try dsimp only at hSw
                        first | (go_simp; done) | (go_simp; with_reducible rfl)
                      try simp only [Act.put, List.getElem_toArray, List.getElem_cons_succ, List.getElem_cons_zero, List.setIfInBounds_toArray, List.set_cons_zero, List.set_cons_succ]
                      refine wpAnyH_take (i := 6) (v := ?_) rfl (by kernel_rfl) (by kernel_rfl) (by kernel_rfl) (fun _ _ _ h => h) (Or.inl ⟨by kernel_rfl, ?_⟩) (by first | assumption | trivial) ?_
                      rotate_left
                      · intro w hSw
                        try dsimp only at hSw
                        first | (go_simp; done) | (go_simp; with_reducible rfl)
                      try simp only [Act.put, List.getElem_toArray, List.getElem_cons_succ, List.getElem_cons_zero, List.setIfInBounds_toArray, List.set_cons_zero, List.set_cons_succ]
                      generalize W2.drew = q0 at *
                      refine wpAnyH_ready (rs := [7, 11]) (by kernel_rfl) (by simp) ?_
                      refine AllReadyH.cons rfl (fun K hK => ?_) (AllReadyH.cons rfl (fun K hK => ?_) AllReadyH.nil)
                      · skip
                        go_simp
                        go_at_call 10
                        refine (HLOOK.out q0 HF0.out).mono ?_
                        rintro y q1 ⟨rfl, hb⟩
                        have HF1 := Lib.hid (HF0.out.trans (hb.mono HF0.out.size))
                        clear hb
                        try go_wp2_with fail
                        refine hK.out _ _ (HS.out q1 HF1.out) (fun hS => ?_)
                        clear hK K
                        try simp only [Act.put, List.getElem_toArray, List.getElem_cons_succ, List.getElem_cons_zero, List.setIfInBounds_toArray, List.set_cons_zero, List.set_cons_succ]
                        refine wpAnyH_take (i := 8) (v := ?_) rfl (by kernel_rfl) (by kernel_rfl) (by kernel_rfl) (fun _ _ _ h => h) (Or.inl ⟨by kernel_rfl, ?_⟩) (by first | assumption | trivial) ?_
                        rotate_left
                        · intro w hSw
                          try dsimp only at hSw
                          first | (go_simp; done) | (go_simp; with_reducible rfl)
                        try simp only [Act.put, List.getElem_toArray, List.getElem_cons_succ, List.getElem_cons_zero, List.setIfInBounds_toArray, List.set_cons_zero, List.set_cons_succ]
                        refine wpAnyH_take (i := 9) (v := ?_) rfl (by kernel_rfl) (by kernel_rfl) (by kernel_rfl) (fun _ _ _ h => h) (Or.inl ⟨by kernel_rfl, ?_⟩) (by first | assumption | trivial) ?_
                        rotate_left
                        · intro w hSw
                          try dsimp only at hSw
                          first | (go_simp; done) | (go_simp; with_reducible rfl)
                        try simp only [Act.put, List.getElem_toArray, List.getElem_cons_succ, List.getElem_cons_zero, List.setIfInBounds_toArray, List.set_cons_zero, List.set_cons_succ]
                        refine wpAnyH_take (i := 10) (v := ?_) rfl (by kernel_rfl) (by kernel_rfl) (by kernel_rfl) (fun _ _ _ h => h) (Or.inl ⟨by kernel_rfl, ?_⟩) (by first | assumption | trivial) ?_
                        rotate_left
                        · intro w hSw
                          try dsimp only at hSw
                          first | (go_simp; done) | (go_simp; with_reducible rfl)
                        try simp only [Act.put, List.getElem_toArray, List.getElem_cons_succ, List.getElem_cons_zero, List.setIfInBounds_toArray, List.set_cons_zero, List.set_cons_succ]
                        refine wpAnyH_ready (rs := [11]) (by kernel_rfl) (by simp) ?_
                        refine AllReadyH.cons rfl (fun K hK => ?_) AllReadyH.nil
                        go_simp
                        have hb := oneB q1 (.cells #[.int .i64 0, .int .i64 0, .int .i64 0, .int .i64 0, .bool false] 30)
                        have HF2 := Lib.hid (HF1.out.trans (hb.mono HF1.out.size))
                        have HA_2 := Lib.hid (Blk.new q1 #[.int .i64 0, .int .i64 0, .int .i64 0, .int .i64 0, .bool false] 30)
                        have HGE : Hid (W2.heap.size ≤ q1.heap.size) := HF1.out.size
                        clear hb
                        generalize q1.alloc (.cells #[.int .i64 0, .int .i64 0, .int .i64 0, .int .i64 0, .bool false] 30) = q2 at *
                        generalize q1.heap.size = g21 at *
                        refine hK.out _ _ (HS.out q2 HF2.out) (fun hS => ?_)
                        clear hK K
                        try simp only [Act.put, List.getElem_toArray, List.getElem_cons_succ, List.getElem_cons_zero, List.setIfInBounds_toArray, List.set_cons_zero, List.set_cons_succ]
                        refine wpAnyH_ready (rs := [12]) (by kernel_rfl) (by simp) ?_
                        refine AllReadyH.cons rfl (fun K hK => ?_) AllReadyH.nil
                        have z0 : q2.cell? ⟨g21, 0, none⟩ = some (.int .i64 0) := HA_2.out.cell 0
                        have z1 : q2.cell? ⟨g21, 1, none⟩ = some (.int .i64 0) := HA_2.out.cell 1
                        have z2 : q2.cell? ⟨g21, 2, none⟩ = some (.int .i64 0) := HA_2.out.cell 2
                        have z3 : q2.cell? ⟨g21, 3, none⟩ = some (.int .i64 0) := HA_2.out.cell 3
                        have z4 : q2.cell? ⟨g21, 4, none⟩ = some (.bool false) := HA_2.out.cell 4
                        have f0 := HA_2.out.free 0
                        have f1 := HA_2.out.free 1
                        have f2 := HA_2.out.free 2
                        have f3 := HA_2.out.free 3
                        have f4 := HA_2.out.free 4
                        have HA_3 := Lib.hid (st5_blk HA_2.out rfl (.int .i64 um) (.int .i64 vm) (.int .i64 AX) (.int .i64 AX) (.bool true))
                        have HF3 := Lib.hid (st5_below (g := g21) HF2.out HGE.out (.int .i64 um) (.int .i64 vm) (.int .i64 AX) (.int .i64 AX) (.bool true))
                        unfold st5 at HA_3 HF3
                        go_simp
                        generalize (((((q2.setCell ⟨g21, 0, none⟩ (.int .i64 um)).setCell ⟨g21, 1, none⟩ (.int .i64 vm)).setCell ⟨g21, 2, none⟩ (.int .i64 AX)).setCell ⟨g21, 3, none⟩ (.int .i64 AX)).setCell ⟨g21, 4, none⟩ (.bool true)) = q3 at *
                        clear z0 z1 z2 z3 z4 f0 f1 f2 f3 f4
                        refine hK.out _ _ (HS.out q3 HF3.out) (fun hS => ?_)
                        clear hK K
                        try simp only [Act.put, List.getElem_toArray, List.getElem_cons_succ, List.getElem_cons_zero, List.setIfInBounds_toArray, List.set_cons_zero, List.set_cons_succ]
                        refine wpAnyH_take (i := 13) (v := ?_) rfl (by kernel_rfl) (by kernel_rfl) (by kernel_rfl) (fun _ _ _ h => h) (Or.inl ⟨by kernel_rfl, ?_⟩) (by first | assumption | trivial) ?_
                        rotate_left
                        · intro w hSw
                          try dsimp only at hSw
                          first | (go_simp; done) | (go_simp; with_reducible rfl)
                        try simp only [Act.put, List.getElem_toArray, List.getElem_cons_succ, List.getElem_cons_zero, List.setIfInBounds_toArray, List.set_cons_zero, List.set_cons_succ]
                        refine wpAnyH_done (by kernel_rfl) ?_ _
                        have HNX : Hid (Zr w1.heap.size 3 200 bs q3 ∧ Below w1.heap.size w1 q3) := ⟨HZ2.out.kept HF3.out, HW2.out.trans (HF3.out.mono HW2.out.size)⟩
                        have s2 : q3.cell? ⟨g21, 2, none⟩ = some (.int .i64 AX) := HA_3.out.cell 2
                        have s3 : q3.cell? ⟨g21, 3, none⟩ = some (.int .i64 AX) := HA_3.out.cell 3
                        have s4 : q3.cell? ⟨g21, 4, none⟩ = some (.bool true) := HA_3.out.cell 4
                        have eyy : ((AX : Int) == AX) = true := by simp
                        clear HZ2 HW2 HA_3
                        go_wp2_with fail
                        go_roundw
                        case rel => exact ⟨b + 1, by omega, by go_num, HNX⟩
                        case measure => simp [intOf]; omega
                      · skip
                        go_simp
                        have hb := oneB q0 (.cells #[.int .i64 0, .int .i64 0, .int .i64 0, .int .i64 0, .bool false] 30)
                        have HF1 := Lib.hid (HF0.out.trans (hb.mono HF0.out.size))
                        have HA_1 := Lib.hid (Blk.new q0 #[.int .i64 0, .int .i64 0, .int .i64 0, .int .i64 0, .bool false] 30)
                        have HGE : Hid (W2.heap.size ≤ q0.heap.size) := HF0.out.size
                        clear hb
                        generalize q0.alloc (.cells #[.int .i64 0, .int .i64 0, .int .i64 0, .int .i64 0, .bool false] 30) = q1 at *
                        generalize q0.heap.size = g21 at *
                        refine hK.out _ _ (HS.out q1 HF1.out) (fun hS => ?_)
                        clear hK K
                        try simp only [Act.put, List.getElem_toArray, List.getElem_cons_succ, List.getElem_cons_zero, List.setIfInBounds_toArray, List.set_cons_zero, List.set_cons_succ]
                        refine wpAnyH_ready (rs := [7]) (by kernel_rfl) (by simp) ?_
                        refine AllReadyH.cons rfl (fun K hK => ?_) AllReadyH.nil
                        go_simp
                        go_at_call 10
                        refine (HLOOK.out q1 HF1.out).mono ?_
                        rintro y q2 ⟨rfl, hb⟩
                        have HF2 := Lib.hid (HF1.out.trans (hb.mono HF1.out.size))
                        have HA_2 := Lib.hid (HA_1.out.below hb HA_1.out.lt)
                        clear hb
                        try go_wp2_with fail
                        refine hK.out _ _ (HS.out q2 HF2.out) (fun hS => ?_)
                        clear hK K
                        try simp only [Act.put, List.getElem_toArray, List.getElem_cons_succ, List.getElem_cons_zero, List.setIfInBounds_toArray, List.set_cons_zero, List.set_cons_succ]
                        refine wpAnyH_take (i := 8) (v := ?_) rfl (by kernel_rfl) (by kernel_rfl) (by kernel_rfl) (fun _ _ _ h => h) (Or.inl ⟨by kernel_rfl, ?_⟩) (by first | assumption | trivial) ?_
                        rotate_left
                        · intro w hSw
                          try dsimp only at hSw
                          first | (go_simp; done) | (go_simp; with_reducible rfl)
                        try simp only [Act.put, List.getElem_toArray, List.getElem_cons_succ, List.getElem_cons_zero, List.setIfInBounds_toArray, List.set_cons_zero, List.set_cons_succ]
                        refine wpAnyH_take (i := 9) (v := ?_) rfl (by kernel_rfl) (by kernel_rfl) (by kernel_rfl) (fun _ _ _ h => h) (Or.inl ⟨by kernel_rfl, ?_⟩) (by first | assumption | trivial) ?_
                        rotate_left
                        · intro w hSw
                          try dsimp only at hSw
                          first | (go_simp; done) | (go_simp; with_reducible rfl)
                        try simp only [Act.put, List.getElem_toArray, List.getElem_cons_succ, List.getElem_cons_zero, List.setIfInBounds_toArray, List.set_cons_zero, List.set_cons_succ]
                        refine wpAnyH_take (i := 10) (v := ?_) rfl (by kernel_rfl) (by kernel_rfl) (by kernel_rfl) (fun _ _ _ h => h) (Or.inl ⟨by kernel_rfl, ?_⟩) (by first | assumption | trivial) ?_
                        rotate_left
                        · intro w hSw
                          try dsimp only at hSw
                          first | (go_simp; done) | (go_simp; with_reducible rfl)
                        try simp only [Act.put, List.getElem_toArray, List.getElem_cons_succ, List.getElem_cons_zero, List.setIfInBounds_toArray, List.set_cons_zero, List.set_cons_succ]
                        refine wpAnyH_ready (rs := [12]) (by kernel_rfl) (by simp) ?_
                        refine AllReadyH.cons rfl (fun K hK => ?_) AllReadyH.nil
                        have z0 : q2.cell? ⟨g21, 0, none⟩ = some (.int .i64 0) := HA_2.out.cell 0
                        have z1 : q2.cell? ⟨g21, 1, none⟩ = some (.int .i64 0) := HA_2.out.cell 1
                        have z2 : q2.cell? ⟨g21, 2, none⟩ = some (.int .i64 0) := HA_2.out.cell 2
                        have z3 : q2.cell? ⟨g21, 3, none⟩ = some (.int .i64 0) := HA_2.out.cell 3
                        have z4 : q2.cell? ⟨g21, 4, none⟩ = some (.bool false) := HA_2.out.cell 4
                        have f0 := HA_2.out.free 0
                        have f1 := HA_2.out.free 1
                        have f2 := HA_2.out.free 2
                        have f3 := HA_2.out.free 3
                        have f4 := HA_2.out.free 4
                        have HA_3 := Lib.hid (st5_blk HA_2.out rfl (.int .i64 um) (.int .i64 vm) (.int .i64 AX) (.int .i64 AX) (.bool true))
                        have HF3 := Lib.hid (st5_below (g := g21) HF2.out HGE.out (.int .i64 um) (.int .i64 vm) (.int .i64 AX) (.int .i64 AX) (.bool true))
                        unfold st5 at HA_3 HF3
                        go_simp
                        generalize (((((q2.setCell ⟨g21, 0, none⟩ (.int .i64 um)).setCell ⟨g21, 1, none⟩ (.int .i64 vm)).setCell ⟨g21, 2, none⟩ (.int .i64 AX)).setCell ⟨g21, 3, none⟩ (.int .i64 AX)).setCell ⟨g21, 4, none⟩ (.bool true)) = q3 at *
                        clear z0 z1 z2 z3 z4 f0 f1 f2 f3 f4
                        refine hK.out _ _ (HS.out q3 HF3.out) (fun hS => ?_)
                        clear hK K
                        try simp only [Act.put, List.getElem_toArray, List.getElem_cons_succ, List.getElem_cons_zero, List.setIfInBounds_toArray, List.set_cons_zero, List.set_cons_succ]
                        refine wpAnyH_take (i := 13) (v := ?_) rfl (by kernel_rfl) (by kernel_rfl) (by kernel_rfl) (fun _ _ _ h => h) (Or.inl ⟨by kernel_rfl, ?_⟩) (by first | assumption | trivial) ?_
                        rotate_left
                        · intro w hSw
                          try dsimp only at hSw
                          first | (go_simp; done) | (go_simp; with_reducible rfl)
                        try simp only [Act.put, List.getElem_toArray, List.getElem_cons_succ, List.getElem_cons_zero, List.setIfInBounds_toArray, List.set_cons_zero, List.set_cons_succ]
                        refine wpAnyH_done (by kernel_rfl) ?_ _
                        have HNX : Hid (Zr w1.heap.size 3 200 bs q3 ∧ Below w1.heap.size w1 q3) := ⟨HZ2.out.kept HF3.out, HW2.out.trans (HF3.out.mono HW2.out.size)⟩
                        have s2 : q3.cell? ⟨g21, 2, none⟩ = some (.int .i64 AX) := HA_3.out.cell 2
                        have s3 : q3.cell? ⟨g21, 3, none⟩ = some (.int .i64 AX) := HA_3.out.cell 3
                        have s4 : q3.cell? ⟨g21, 4, none⟩ = some (.bool true) := HA_3.out.cell 4
                        have eyy : ((AX : Int) == AX) = true := by simp
                        clear HZ2 HW2 HA_3
                        go_wp2_with fail
                        go_roundw
                        case rel => exact ⟨b + 1, by omega, by go_num, HNX⟩
                        case measure => simp [intOf]; omega
                  · have hbI : (3 : Int) ≤ (b : Int) := by omega
                    go_wp2_with fail
                    go_roundw
                    case rel => exact ⟨a + 1, by omega, by go_num, HZ⟩
                    case measure => simp [intOf]; omega
              · have haI : (3 : Int) ≤ (a : Int) := by omega
                have HOUT := Lib.hid (HB1.out.trans (HZ.out.2.mono HB1.out.size))
                clear HZ
                go_wp2_with fail
                go_ret
                exact ⟨rfl, HOUT.out⟩
end Go.Proofs.Ytogfhijfpobhhaa
