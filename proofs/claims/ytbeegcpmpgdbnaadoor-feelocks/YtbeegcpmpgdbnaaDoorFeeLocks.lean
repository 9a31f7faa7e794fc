/-
  Proved: for every transaction, all outputs, every place and every key the law FeeLocks answers true, and its argument reads as it did. Condition: the table of the sum's constants stands, as the card says.
-/
import Derived.Test.YtbeegcpmpgdbnaaDoorFeeAl
import Derived.Test.YtbeegcpmpgdbnaaDoorFeeLkP
import Derived.Test.YtbeegcpmpgdbnaaDoorFeeLkA
import Derived.Test.YtbeegcpmpgdbnaaDoorRowCut
import Derived.Test.YtbeegcpmpgdbnaaDoorRefSha
import Derived.Test.YtbeegcpmpgdbnaaDoorShaLaw
import Derived.BigRegion
namespace Go.Proofs.YtbeegcpmpgdbnaaDoor
open Go.ChangeShapes Go.WideShapes Go.ChangeAt Go.RowKit

/-- What came in, six cells in a box. -/
def LBox (w : World) (q : Nat) (x y z p m k : Value) : Prop := TBox w q x y z ∧ w.cell? ⟨q, 3, none⟩ = some p ∧ w.cell? ⟨q, 4, none⟩ = some m ∧ w.cell? ⟨q, 5, none⟩ = some k
theorem LBox.on {w w' : World} {q : Nat} {x y z p m k : Value} (h : LBox w q x y z p m k) (hb : Below w.heap.size w w') : LBox w' q x y z p m k :=
  ⟨h.1.on hb, (hb.cell (World.block_lt_of_cell? _ _ h.2.1)).trans h.2.1, (hb.cell (World.block_lt_of_cell? _ _ h.2.2.1)).trans h.2.2.1, (hb.cell (World.block_lt_of_cell? _ _ h.2.2.2)).trans h.2.2.2⟩
theorem LBox.new (w : World) (x y z p m k : Value) (t : TypeId) : LBox (w.alloc (.cells #[x, y, z, p, m, k] t)) w.heap.size x y z p m k := by
  have h := range_new w [x, y, z, p, m, k] t
  have h0 := h 0 _ rfl
  have h1 := h 1 _ rfl
  have h2 := h 2 _ rfl
  have h3 := h 3 _ rfl
  have h4 := h 4 _ rfl
  have h5 := h 5 _ rfl
  simp only [Nat.zero_add] at h0 h1 h2 h3 h4 h5
  exact ⟨⟨h0, h1, h2⟩, h3, h4, h5⟩

set_option maxRecDepth 100000 in
set_option maxHeartbeats 4000000 in
theorem feeLocks_walk {w : World} (hk : Ks w) (t : Tr) (iv ov pv : Value) (prev : List TOut) (z : Int) (kv : Value) (key : List Int) (h : TxAt w iv ov t) (hok : TrOk t) (ho : OutsAt w pv prev) (hpo : ∀ x ∈ prev, OutOk x) (hz : 0 ≤ z ∧ z < 256) (hkv : Bytes w kv key) (hkey : AllB key) :
    Calls Tryd.prog 7 #[.agg #[.int .u32 t.ver, iv, ov, pv, .int .u8 z, kv]] w fun e w' => e = .returned (.bool true) ∧ Below w.heap.size w w' := by
  classical
  obtain ⟨p, hp⟩ : ∃ p : Bool, p = true ↔ PayOk t.outs := ⟨decide (PayOk t.outs), by simp⟩
  obtain ⟨d, hd⟩ : ∃ d : Bool, d = false ↔ (t.ins.map ptOf).Nodup := ⟨!decide ((t.ins.map ptOf).Nodup), by simp⟩
  obtain ⟨r, hr⟩ : ∃ r : Bool, r = true ↔ Opens t.ins prev := ⟨decide (Opens t.ins prev), by simp⟩
  have hnew := below_new w (.cells #[.int .u32 t.ver, iv, ov, pv, .int .u8 z, kv] 64)
  have HT0 := hide (h.on hnew)
  have HP0 := hide (OutsAt.on ho hnew)
  have HV0 := hide (hkv.below hnew)
  have HB0 := hide hnew
  have HX0 := hide (LBox.new w (.int .u32 t.ver) iv ov pv (.int .u8 z) kv 64)
  have HK0 := hide (hk.on hnew)
  have AL := hide (fun w (k : Ks w) => alive10_any w k)
  have CC := hide (fun w (h : TxAt w iv ov t) => tcheck_any t iv ov w h hok p d hp hd)
  have CO := hide (fun w (h : TxAt w iv ov t) (ho : OutsAt w pv prev) (k : Ks w) => of_any t iv ov pv prev w h ho hok hpo k p d r hp hd hr)
  have CR := hide (fun (L : List TIn) (iv : Value) (hok : TrOk ⟨t.ver, L, t.outs⟩) (hd : d = false ↔ (L.map ptOf).Nodup) (r : Bool) (hr : r = true ↔ Opens L prev) w (h : TxAt w iv ov ⟨t.ver, L, t.outs⟩) (ho : OutsAt w pv prev) (k : Ks w) => of_any ⟨t.ver, L, t.outs⟩ iv ov pv prev w h ho hok hpo k p d r hp hd hr)
  have HD := hide hd
  have HOK := hide hok
  have HPO := hide hpo
  have HKEY := hide hkey
  have HRO := hide hr
  have HZO := hide (fun h => ofE_lock (t := t) (prev := prev) (p := p) (d := d) (r := r) h)
  obtain ⟨a, cap, rfl, -, -⟩ := h.1.form
  obtain ⟨a', cap', rfl, -, -⟩ := h.2.form
  obtain ⟨a'', cap'', rfl, -, -⟩ := OutsAt.form ho
  obtain ⟨ka, kc, rfl, hkc1, hkc2⟩ := hkv.form
  have GR := hide (fun w (h : TxAt w (.slice a t.ins.length cap) (.slice a' t.outs.length cap') t) => great10_any t (.slice a t.ins.length cap) (.slice a' t.outs.length cap') a'' prev.length cap'' w h.1 h.2 (fun x hx => (HOK.out.2.1 x hx).1))
  clear h ho hok hpo hk hp hd hr hnew hkv hkey hkc1 hkc2
  generalize hgg : g10 t prev.length = gg at *
  clear hgg
  go_enter Tryd.func7, Tryd.ntmps7
  go_upto_region 1 with fail
  generalize w.alloc (.cells #[.int .u32 t.ver, .slice a t.ins.length cap, .slice a' t.outs.length cap', .slice a'' prev.length cap'', .int .u8 z, .slice ka key.length kc] 64) = W0 at *
  generalize hwq : w.heap.size = q at *
  have HQ := hide hwq
  clear hwq
  go_wp2_with fail
  refine (AL.out _ HK0.out).mono ?_
  rintro e w1 ⟨rfl, hb1⟩
  have HB1 := hide (below_on (show Below w.heap.size w W0 by rw [HQ.out]; exact HB0.out) hb1)
  have HT1 := hide (HT0.out.on hb1)
  have HP1 := hide (OutsAt.on HP0.out hb1)
  have HV1 := hide (HV0.out.below hb1)
  have HX1 := hide (HX0.out.on hb1)
  have HK1 := hide (HK0.out.on hb1)
  obtain ⟨⟨n0, n1, n2⟩, n3, n4, n5⟩ := HX1.out
  clear hb1 HB0 HT0 HP0 HV0 HX0 HK0 AL
  go_upto_region 3 with fail
  obtain ⟨⟨m0, m1, m2⟩, m3, m4, m5⟩ := HX1.out.on (below_new w1 (.cells #[.int .u32 0, .slice none 0 0, .slice none 0 0] 26))
  obtain ⟨⟨k0, k1, k2⟩, k3, k4, k5⟩ := HX1.out.on (below_new w1 (.cells #[.int .u32 t.ver, .slice a t.ins.length cap, .slice a' t.outs.length cap'] 26))
  go_big_region
  have hbn := (below_new w1 (.cells #[.int .u32 t.ver, .slice a t.ins.length cap, .slice a' t.outs.length cap'] 26)).drew
  have HB2 := hide (below_on HB1.out hbn)
  have HT2 := hide (HT1.out.on hbn)
  have HP2 := hide (OutsAt.on HP1.out hbn)
  have HV2 := hide (HV1.out.below hbn)
  have HK2 := hide (HK1.out.on hbn)
  have HX2 : Hid (TBox (w1.alloc (.cells #[.int .u32 t.ver, .slice a t.ins.length cap, .slice a' t.outs.length cap'] 26)).drew w1.heap.size (.int .u32 t.ver) (.slice a t.ins.length cap) (.slice a' t.outs.length cap')) := hide (TBox.new w1 _ _ _ 26)
  clear hbn n0 n1 n2 n3 n4 n5 m0 m1 m2 m3 m4 m5 k0 k1 k2 k3 k4 k5 HB1 HT1 HP1 HV1 HK1 HX1
  generalize (w1.alloc (.cells #[.int .u32 t.ver, .slice a t.ins.length cap, .slice a' t.outs.length cap'] 26)).drew = w2 at *
  generalize w1.heap.size = q2 at *
  obtain ⟨n0, n1, n2⟩ := HX2.out
  go_wp2_with fail
  refine (GR.out _ HT2.out).mono ?_
  rintro e w3 ⟨rfl, hb3⟩
  have HB3 := hide (below_on HB2.out hb3)
  have HT3 := hide (HT2.out.on hb3)
  have HP3 := hide (OutsAt.on HP2.out hb3)
  have HV3 := hide (HV2.out.below hb3)
  have HK3 := hide (HK2.out.on hb3)
  have HX3 := hide (HX2.out.on hb3)
  clear hb3 n0 n1 n2 HB2 HT2 HP2 HV2 HK2 HX2
  obtain ⟨n0, n1, n2⟩ := HX3.out
  cases gg with
  | true =>
    clear CO CC CR
    go_wp2
    go_ret
    exact ⟨rfl, HB3.out⟩
  | false =>
  by_cases hlen : key.length ≤ 64
  case neg =>
    have hl : (64 : Int) < (key.length : Int) := by omega
    clear CO CC CR
    go_wp2
    go_ret
    exact ⟨rfl, HB3.out⟩
  have hl : ¬ (64 : Int) < (key.length : Int) := by omega
  have hld : decide ((64 : Int) < (key.length : Int)) = false := decide_eq_false hl
  go_wp2_with fail
  refine (CC.out _ HT3.out).mono ?_
  rintro e w4 ⟨rfl, hb4⟩
  have HB4 := hide (below_on HB3.out hb4)
  have HT4 := hide (HT3.out.on hb4)
  have HP4 := hide (OutsAt.on HP3.out hb4)
  have HV4 := hide (HV3.out.below hb4)
  have HK4 := hide (HK3.out.on hb4)
  have HX4 := hide (HX3.out.on hb4)
  clear hb4 n0 n1 n2 HB3 HT3 HP3 HV3 HK3 HX3
  obtain ⟨n0, n1, n2⟩ := HX4.out
  by_cases c0 : chE t p d = 0
  case neg =>
    generalize chE t p d = ce at *
    have c0' : (ce == 0) = false := by rw [beq_eq_false_iff_ne]; exact c0
    have c0n : (ce != 0) = true := by rw [bne, c0']; rfl
    clear CO CC CR
    go_wp2
    go_ret
    exact ⟨rfl, HB4.out⟩
  rw [c0]
  have hi0 := chE_some c0
  clear CC
  go_wp2_with fail
  refine (CO.out _ HT4.out HP4.out HK4.out).mono ?_
  rintro e w5 ⟨rfl, hb5⟩
  have HB5 := hide (below_on HB4.out hb5)
  have HT5 := hide (HT4.out.on hb5)
  have HP5 := hide (OutsAt.on HP4.out hb5)
  have HV5 := hide (HV4.out.below hb5)
  have HK5 := hide (HK4.out.on hb5)
  have HX5 := hide (HX4.out.on hb5)
  clear hb5 n0 n1 n2 HB4 HT4 HP4 HV4 HK4 HX4
  obtain ⟨n0, n1, n2⟩ := HX5.out
  have HC0 := hide c0
  clear c0 GR CO
  by_cases c1 : ofE t prev p d r = 0
  case neg =>
    generalize ofE t prev p d r = ee at *
    generalize ofV t prev p d r = vv at *
    have c1' : (ee == 0) = false := by rw [beq_eq_false_iff_ne]; exact c1
    clear CR
    go_wp2
    go_ret
    exact ⟨rfl, HB5.out⟩
  obtain ⟨-, hlp, rfl⟩ := HZO.out c1
  have HLP := hide hlp
  have HC1 := hide c1
  rw [c1]
  clear c1 HZO hlp
  generalize ofV t prev p d true = vv at *
  obtain ⟨k, hk⟩ : ∃ k : Nat, z % (t.ins.length : Int) = (k : Int) := ⟨(z % (t.ins.length : Int)).toNat, by have := Int.emod_nonneg z (show (t.ins.length : Int) ≠ 0 by omega); omega⟩
  have hkl : k < t.ins.length := by
    have := Int.emod_lt_of_pos z (show (0 : Int) < (t.ins.length : Int) by omega)
    omega
  obtain ⟨x, hx⟩ : ∃ x, t.ins[k]? = some x := ⟨_, List.getElem?_eq_getElem hkl⟩
  obtain ⟨y, hy⟩ : ∃ y, prev[k]? = some y := ⟨_, List.getElem?_eq_getElem (by rw [HLP.out]; exact hkl)⟩
  have hopen : Opens t.ins prev := HRO.out.1 rfl
  have C6 := hide (CR.out (t.ins.set k (rekey x key)))
  have HXK := hide hx
  have HYK := hide hy
  have HOP := hide hopen
  clear CR HRO hx hy hopen
  have hbn := below_new w5 (.cells #[.int .u32 t.ver, .slice a t.ins.length cap, .slice a' t.outs.length cap'] 26)
  have HB6 := hide hbn
  have HT6 := hide (HT5.out.on hbn)
  have HX6 := hide (HX5.out.on hbn)
  have HY6 := hide (TBox.new w5 (.int .u32 t.ver) (.slice a t.ins.length cap) (.slice a' t.outs.length cap') 26)
  have HS6 : Hid (w5.heap.size < (w5.alloc (.cells #[.int .u32 t.ver, .slice a t.ins.length cap, .slice a' t.outs.length cap'] 26)).heap.size) := hide (by rw [alloc_size]; omega)
  have HFZ6 : Hid ((w5.alloc (.cells #[.int .u32 t.ver, .slice a t.ins.length cap, .slice a' t.outs.length cap'] 26)).frozen? ⟨w5.heap.size, 1, none⟩ = false) := hide (there_new w5 #[.int .u32 t.ver, .slice a t.ins.length cap, .slice a' t.outs.length cap'] 26 1 (by simp)).2
  clear hbn
  go_upto_region 11 with fail
  rw [hk]
  clear n0 n1 n2 hk
  generalize w5.alloc (.cells #[.int .u32 t.ver, .slice a t.ins.length cap, .slice a' t.outs.length cap'] 26) = w6 at *
  generalize hq3 : w5.heap.size = q3 at *
  have HQ3 := hide hq3
  clear hq3
  obtain ⟨n0, n1, n2⟩ := HX6.out
  obtain ⟨c0, c1, c2⟩ := HY6.out
  obtain ⟨D, hD, hrow, hby⟩ := HT5.out.1
  have hdl : D.length = t.ins.length := by rw [← hD, List.length_map]
  obtain ⟨yk, hyk⟩ : ∃ u, D[k]? = some u := ⟨_, List.getElem?_eq_getElem (by omega)⟩
  obtain ⟨bi, oi, rfl, -⟩ := hrow.get (k := k) (c := inC yk) (by rw [List.getElem?_map, hyk]; rfl)
  have hbe := below_new w6 (.cells #[] 39)
  have A0 := own_none w6 w6.heap.size 39 34 (Nat.le_refl _)
  have hrow7 := (hrow.on (show Below w5.heap.size w5 w6 by rw [HQ3.out]; exact HB6.out)).on hbe
  obtain ⟨v8, w8, hrun, hown, hgr, -⟩ := run_append_rows (w6.alloc (.cells #[] 39)) 23 39 23 _ 34 64 Tryd.underlying23 infoIn rfl (by omega) (by omega) w6.heap.size _ [] A0 ⟨bi, oi, none⟩ t.ins.length cap (D.map inC) hrow7 (fun c hc => by
    obtain ⟨u, hu, rfl⟩ := List.mem_map.1 hc
    exact ⟨inC_length (HOK.out.2.1 u.1 (hD ▸ List.mem_map_of_mem hu)).1, inC_one (hby u hu).oneCell⟩) (by have := (formB_iff t).1 (chE_form HC0.out); simp only [List.length_nil, List.length_map]; omega) hbe.size
  rw [List.nil_append] at hown
  have hb8 : Below w6.heap.size w6 w8 := hbe.grown hgr hbe.size fun j hj => (A0.lt j hj).1
  have hf8 := hown.row.form
  rw [List.length_map, hdl] at hf8
  obtain ⟨a8, cap8, rfl, -, -⟩ := hf8
  obtain ⟨g, o8, rfl, hr8⟩ := hown.row.get (k := k) (c := inC yk) (by rw [List.getElem?_map, hyk]; rfl)
  obtain ⟨ho8, hg8, hfz8⟩ := own_room hown
  replace ho8 : o8 = 0 := ho8
  subst ho8
  replace hg8 : w6.heap.size ≤ g := hg8
  have HRUN := hide hrun
  have HB8 := hide hb8
  have HOWN8 := hide hown
  have HD8 := hide (And.intro hD (And.intro hby hyk))
  have HG8 := hide hg8
  have hY8 := HY6.out.on hb8
  clear c0 c1 c2
  obtain ⟨c0, c1, c2⟩ := hY8
  obtain ⟨e0, e1, e2⟩ := HX6.out.on hbe
  have fz8 : w8.frozen? ⟨q3, 1, none⟩ = false := (World.frozen?_of_block (w := w6) (a := ⟨q3, 1, none⟩) (hb8.block q3 HS6.out)).trans HFZ6.out
  clear hrun hgr hrow hrow7 hbe A0 hown hb8 hD hby hyk hdl hg8 hfz8 hr8
  go_upto_region 12 with (at_builtin; refine wp_app rfl (.tmp 51) (.tmp 53) 23 rfl rfl rfl HRUN.out ?_)
  have HY9 := hide (TBox.mid ⟨c0, c1, c2⟩ (.slice (some ⟨g, 0, none⟩) t.ins.length cap8))
  have HOWN9 : Hid (RowOwn (w8.setCell ⟨q3, 1, none⟩ (.slice (some ⟨g, 0, none⟩) t.ins.length cap8)) w6.heap.size 39 34 (.slice (some ⟨g, 0, none⟩) t.ins.length cap8) (D.map inC)) := hide ⟨Go.RowKit.ownsRow_setCell_below HOWN8.out.1 (show q3 < w6.heap.size from HS6.out) _, HOWN8.out.2⟩
  have HB9 : Hid (Below q3 w5 (w8.setCell ⟨q3, 1, none⟩ (.slice (some ⟨g, 0, none⟩) t.ins.length cap8))) := hide ((HB6.out.trans (HB8.out.mono (Nat.le_of_lt HS6.out))).setCell (Nat.le_refl _) _)
  clear c0 c1 c2 e0 e1 e2 n0 n1 n2 fz8 HOWN8 HY6 HX6 HB8 HRUN HFZ6 HT6
  generalize w8.setCell ⟨q3, 1, none⟩ (.slice (some ⟨g, 0, none⟩) t.ins.length cap8) = w9 at *
  obtain ⟨c0, c1, c2⟩ := HY9.out
  obtain ⟨hD, hby, hyk⟩ := HD8.out
  have hty : ∀ x ∈ D.map Prod.fst, x.tx.length = 32 := fun x hx => (HOK.out.2.1 x (hD ▸ hx)).1
  obtain ⟨bg, og, e9, hr9⟩ := HOWN9.out.row.get (k := k) (c := inC yk) (by rw [List.getElem?_map, hyk]; rfl)
  cases e9
  have k9 := (inC_key hr9 (hty yk.1 (List.mem_map_of_mem (List.mem_of_getElem? hyk)))).1
  have f9 := (own_room HOWN9.out).2.2 (k * 34 + 33)
  replace f9 : w9.frozen? ⟨g, k * 34 + 33, none⟩ = false := f9
  simp only [Nat.zero_add] at k9
  have hk1 : (k : Int) < (t.ins.length : Int) := by omega
  have hg3 : q3 < g := by have := HG8.out; have := HS6.out; omega
  have HB10 : Hid (Below q3 w5 (w9.setCell ⟨g, k * 34 + 33, none⟩ (.slice ka key.length kc))) := hide (HB9.out.setCell (Nat.le_of_lt hg3) _)
  have HB10' : Hid (Below w5.heap.size w5 (w9.setCell ⟨g, k * 34 + 33, none⟩ (.slice ka key.length kc))) := hide (by rw [HQ3.out]; exact HB10.out)
  have HI10 := hide (ins_set (w0 := w5) (w := w9) (x := x) (k := k) hty hby HOWN9.out.row (by rw [hD]; exact HXK.out) HV5.out HB10'.out)
  rw [hD] at HI10
  have HY10 := hide (HY9.out.beside (i := k * 34 + 33) (show g ≠ q3 by omega) (.slice ka key.length kc))
  clear hr9 hD hby hyk hty
  go_upto_region 13 with fail
  have HT10 : Hid (TxAt (w9.setCell ⟨g, k * 34 + 33, none⟩ (.slice ka key.length kc)) (.slice (some ⟨g, 0, none⟩) t.ins.length cap8) (.slice a' t.outs.length cap') ⟨t.ver, t.ins.set k (rekey x key), t.outs⟩) := hide ⟨HI10.out, OutsAt.on HT5.out.2 HB10'.out⟩
  have HP10 := hide (OutsAt.on HP5.out HB10'.out)
  have HV10 := hide (HV5.out.below HB10'.out)
  have HK10 := hide (HK5.out.on HB10'.out)
  have HBB10 := hide (below_on HB5.out HB10'.out)
  clear c0 c1 c2 k9 f9 HI10 HB10 HB10' HY9 HOWN9 HB9 HT5 HP5 HV5 HK5 HB5 HX5 HB6
  generalize w9.setCell ⟨g, k * 34 + 33, none⟩ (.slice ka key.length kc) = w10 at *
  obtain ⟨c0, c1, c2⟩ := HY10.out
  obtain ⟨bp, op, hbp, hry⟩ := OutsAt.get HP10.out HYK.out
  subst hbp
  have hyl := (HPO.out y (List.mem_of_getElem? HYK.out)).2.1
  have HYL := hide hyl
  have HLY : Hid ((Tryd.prog.info? 34).map (·.size) = some (vals .u8 y.lock).length) := hide (by rw [vals_length, HYL.out]; exact info_hash)
  have HRY : Hid (w10.rangeAt bp (op + k * 33 + 1) (vals .u8 y.lock)) := hide (by
    have h := range_right (c := [Value.int .u64 y.val]) (d := vals .u8 y.lock) hry
    simpa using h)
  have hk2 : (k : Int) < (prev.length : Int) := by rw [HLP.out]; exact hk1
  have hnm : (Tryd.f14.name == "runtime.NumGoroutine") = false := by kernel_rfl
  have hbd : Tryd.f14.body.isNone = false := by kernel_rfl
  have HRK := hide (fun bb => rekey_of (k := k) (x := x) (key := key) HC1.out hlen bb)
  have HLEN := hide hlen
  clear hry hyl hlen
  cases hbb : decide (digest key = y.lock) with
  | true =>
    have C7 := hide (C6.out (.slice (some ⟨g, 0, none⟩) t.ins.length cap8) (rekey_ok HOK.out HXK.out HKEY.out) (by rw [rekey_points HXK.out]; exact HD.out) true (by rw [rekey_opens HXK.out HYK.out HOP.out]; simpa using hbb) w10 HT10.out HP10.out HK10.out)
    rw [(HRK.out true).1, if_pos rfl] at C7
    have HDG := hide (of_decide_eq_true hbb)
    clear C6 HRK hbb
    generalize ofV ⟨t.ver, t.ins.set k (rekey x key), t.outs⟩ prev p d true = v2 at *
    go_wp2_with fail
    refine C7.out.mono ?_
    rintro e w11 ⟨rfl, hb11⟩
    have HB11 := hide (below_on HBB10.out hb11)
    have HR11 := hide (range_on HRY.out hb11)
    have C8 := hide (rsum_any w11.drew _ key (HV10.out.below hb11).drew (by have := HLEN.out; omega))
    rw [HDG.out] at C8
    have EQ := fun w => eql_hash y.lock HYL.out w
    clear hb11 c0 c1 c2 C7 HT10 HP10 HV10 HK10 HBB10 HY10 HRY
    go_upto_region 14 with fail
    try simp only [Act.put]
    refine wp_region_held_drew (S := fun wx => Below w11.heap.size w11 wx) (by kernel_rfl) (Below.refl _ _).drew (fun hHeld => ?_)
    refine wpAnyH_take (i := 0) (oi := { dst := some 68, op := Op.move (Operand.tmp 6), type := 37, pos := "law.go:169", after := #[], guard := none }) (v := .slice ka key.length kc) rfl (by kernel_rfl) (by kernel_rfl) (by kernel_rfl) (fun _ _ _ h => h) (Or.inl ⟨by rfl, fun w _ => by go_simp⟩) (by assumption) ?_
    simp only [Act.put, List.setIfInBounds_toArray, List.set_cons_zero, List.set_cons_succ]
    refine wpAnyH_take (i := 2) (oi := { dst := some 70, op := Op.move (Operand.tmp 4), type := 24, pos := "law.go:169", after := #[], guard := none }) (v := .slice (some ⟨bp, op, none⟩) prev.length cap'') rfl (by kernel_rfl) (by kernel_rfl) (by kernel_rfl) (fun _ _ _ h => h) (Or.inl ⟨by rfl, fun w _ => by go_simp⟩) (by assumption) ?_
    simp only [Act.put, List.setIfInBounds_toArray, List.set_cons_zero, List.set_cons_succ]
    refine wpAnyH_take (i := 3) (oi := { dst := some 71, op := Op.move (Operand.tmp 9), type := 3, pos := "law.go:169", after := #[], guard := none }) (v := .int .i64 (k : Int)) rfl (by kernel_rfl) (by kernel_rfl) (by kernel_rfl) (fun _ _ _ h => h) (Or.inl ⟨by rfl, fun w _ => by go_simp⟩) (by assumption) ?_
    simp only [Act.put, List.setIfInBounds_toArray, List.set_cons_zero, List.set_cons_succ]
    refine wpAnyH_take (i := 4) (oi := { dst := some 72, op := Op.indexAddr 24 (Operand.tmp 70) (Operand.tmp 71), type := 0, pos := "law.go:169", after := #[{ on := 2, ground := Ground.data }, { on := 3, ground := Ground.data }], guard := none }) (v := .pointer (some ⟨bp, op + k * 33, none⟩)) rfl (by kernel_rfl) (by kernel_rfl) (by kernel_rfl) (fun _ _ _ h => h) (Or.inl ⟨by rfl, fun w _ => by go_simp⟩) (by assumption) ?_
    simp only [Act.put, List.setIfInBounds_toArray, List.set_cons_zero, List.set_cons_succ]
    refine wpAnyH_take (i := 5) (oi := { dst := some 73, op := Op.fieldAddr 60 (Operand.tmp 72) 1, type := 0, pos := "law.go:169", after := #[{ on := 4, ground := Ground.data }], guard := none }) (v := .pointer (some ⟨bp, op + k * 33 + 1, none⟩)) rfl (by kernel_rfl) (by kernel_rfl) (by kernel_rfl) (fun _ _ _ h => h) (Or.inl ⟨by rfl, fun w _ => by go_simp⟩) (by assumption) ?_
    simp only [Act.put, List.setIfInBounds_toArray, List.set_cons_zero, List.set_cons_succ]
    refine wpAnyH_take (i := 6) (oi := { dst := some 74, op := Op.load 34 (Operand.tmp 73), type := 34, pos := "law.go:169", after := #[{ on := 5, ground := Ground.data }], guard := none }) (v := .agg (vals .u8 y.lock).toArray) rfl (by kernel_rfl) (by kernel_rfl) (by kernel_rfl) (fun _ _ _ h => h) (yieldsIf_load_mid (by rfl) 34 (.tmp 73) rfl bp (op + k * 33 + 1) rfl (vals .u8 y.lock) _ (fun w h => range_on HR11.out h) Tryd.underlying34 rfl HLY.out) (by assumption) ?_
    simp only [Act.put, List.setIfInBounds_toArray, List.set_cons_zero, List.set_cons_succ]
    refine wpAnyH_ready (rs := [1]) (by kernel_rfl) (by simp) (AllReadyH.cons (o := { dst := some 69, op := Op.call { callee := Callee.value (Operand.func 14), args := #[Operand.tmp 68], argTypes := #[37] }, type := 34, pos := "law.go:169", after := #[{ on := 0, ground := Ground.data }], guard := none }) rfl (fun K hK => ?_) AllReadyH.nil)
    refine step_go (vs := #[.slice ka key.length kc]) rfl 14 _ Tryd.func14 hnm hbd _ _ rfl (by simp [Act.eval]) ?_
    refine C8.out.mono ?_
    rintro e w12 ⟨rfl, hb12⟩
    refine ⟨_, rfl, ?_⟩
    refine hK.out _ _ ?_ (fun hHeld => ?_)
    · exact below_on (Below.refl _ _).drew hb12
    clear hK K
    try simp only [Act.put, List.setIfInBounds_toArray, List.set_cons_zero, List.set_cons_succ]
    refine wpAnyH_take (i := 7) (oi := { dst := some 75, op := Op.binOp BinOp.neq 34 (Operand.tmp 69) (Operand.tmp 74) 34, type := 4, pos := "law.go:169", after := #[{ on := 1, ground := Ground.data }, { on := 6, ground := Ground.data }], guard := none }) (v := .bool false) rfl (by kernel_rfl) (by kernel_rfl) (by kernel_rfl) (fun _ _ _ h => h) (Or.inl ⟨by rfl, fun w _ => by go_simp⟩) (by assumption) ?_
    simp only [Act.put, List.setIfInBounds_toArray, List.set_cons_zero, List.set_cons_succ]
    refine wpAnyH_done (by kernel_rfl) ?_ _
    clear hHeld
    have HB12 := hide (below_on HB11.out (below_on (Below.refl _ _).drew hb12))
    clear hb12 EQ
    go_wp2
    go_ret
    exact ⟨by first | rfl | simp, HB12.out⟩
  | false =>
    have C7 := hide (C6.out (.slice (some ⟨g, 0, none⟩) t.ins.length cap8) (rekey_ok HOK.out HXK.out HKEY.out) (by rw [rekey_points HXK.out]; exact HD.out) false (by rw [rekey_opens HXK.out HYK.out HOP.out]; simpa using hbb) w10 HT10.out HP10.out HK10.out)
    rw [(HRK.out false).1, (HRK.out false).2 rfl, if_neg (by decide)] at C7
    have EQ := fun w => eql_hash8 (digest key) y.lock (digest_length key) HYL.out w
    rw [hbb] at EQ
    clear C6 HRK hbb
    go_wp2_with fail
    refine C7.out.mono ?_
    rintro e w11 ⟨rfl, hb11⟩
    have HB11 := hide (below_on HBB10.out hb11)
    have HR11 := hide (range_on HRY.out hb11)
    have C8 := hide (rsum_any w11.drew _ key (HV10.out.below hb11).drew (by have := HLEN.out; omega))
    clear hb11 c0 c1 c2 C7 HT10 HP10 HV10 HK10 HBB10 HY10 HRY
    generalize digest key = DK at *
    go_upto_region 14 with fail
    try simp only [Act.put]
    refine wp_region_held_drew (S := fun wx => Below w11.heap.size w11 wx) (by kernel_rfl) (Below.refl _ _).drew (fun hHeld => ?_)
    refine wpAnyH_take (i := 0) (oi := { dst := some 68, op := Op.move (Operand.tmp 6), type := 37, pos := "law.go:169", after := #[], guard := none }) (v := .slice ka key.length kc) rfl (by kernel_rfl) (by kernel_rfl) (by kernel_rfl) (fun _ _ _ h => h) (Or.inl ⟨by rfl, fun w _ => by go_simp⟩) (by assumption) ?_
    simp only [Act.put, List.setIfInBounds_toArray, List.set_cons_zero, List.set_cons_succ]
    refine wpAnyH_take (i := 2) (oi := { dst := some 70, op := Op.move (Operand.tmp 4), type := 24, pos := "law.go:169", after := #[], guard := none }) (v := .slice (some ⟨bp, op, none⟩) prev.length cap'') rfl (by kernel_rfl) (by kernel_rfl) (by kernel_rfl) (fun _ _ _ h => h) (Or.inl ⟨by rfl, fun w _ => by go_simp⟩) (by assumption) ?_
    simp only [Act.put, List.setIfInBounds_toArray, List.set_cons_zero, List.set_cons_succ]
    refine wpAnyH_take (i := 3) (oi := { dst := some 71, op := Op.move (Operand.tmp 9), type := 3, pos := "law.go:169", after := #[], guard := none }) (v := .int .i64 (k : Int)) rfl (by kernel_rfl) (by kernel_rfl) (by kernel_rfl) (fun _ _ _ h => h) (Or.inl ⟨by rfl, fun w _ => by go_simp⟩) (by assumption) ?_
    simp only [Act.put, List.setIfInBounds_toArray, List.set_cons_zero, List.set_cons_succ]
    refine wpAnyH_take (i := 4) (oi := { dst := some 72, op := Op.indexAddr 24 (Operand.tmp 70) (Operand.tmp 71), type := 0, pos := "law.go:169", after := #[{ on := 2, ground := Ground.data }, { on := 3, ground := Ground.data }], guard := none }) (v := .pointer (some ⟨bp, op + k * 33, none⟩)) rfl (by kernel_rfl) (by kernel_rfl) (by kernel_rfl) (fun _ _ _ h => h) (Or.inl ⟨by rfl, fun w _ => by go_simp⟩) (by assumption) ?_
    simp only [Act.put, List.setIfInBounds_toArray, List.set_cons_zero, List.set_cons_succ]
    refine wpAnyH_take (i := 5) (oi := { dst := some 73, op := Op.fieldAddr 60 (Operand.tmp 72) 1, type := 0, pos := "law.go:169", after := #[{ on := 4, ground := Ground.data }], guard := none }) (v := .pointer (some ⟨bp, op + k * 33 + 1, none⟩)) rfl (by kernel_rfl) (by kernel_rfl) (by kernel_rfl) (fun _ _ _ h => h) (Or.inl ⟨by rfl, fun w _ => by go_simp⟩) (by assumption) ?_
    simp only [Act.put, List.setIfInBounds_toArray, List.set_cons_zero, List.set_cons_succ]
    refine wpAnyH_take (i := 6) (oi := { dst := some 74, op := Op.load 34 (Operand.tmp 73), type := 34, pos := "law.go:169", after := #[{ on := 5, ground := Ground.data }], guard := none }) (v := .agg (vals .u8 y.lock).toArray) rfl (by kernel_rfl) (by kernel_rfl) (by kernel_rfl) (fun _ _ _ h => h) (yieldsIf_load_mid (by rfl) 34 (.tmp 73) rfl bp (op + k * 33 + 1) rfl (vals .u8 y.lock) _ (fun w h => range_on HR11.out h) Tryd.underlying34 rfl HLY.out) (by assumption) ?_
    simp only [Act.put, List.setIfInBounds_toArray, List.set_cons_zero, List.set_cons_succ]
    refine wpAnyH_ready (rs := [1]) (by kernel_rfl) (by simp) (AllReadyH.cons (o := { dst := some 69, op := Op.call { callee := Callee.value (Operand.func 14), args := #[Operand.tmp 68], argTypes := #[37] }, type := 34, pos := "law.go:169", after := #[{ on := 0, ground := Ground.data }], guard := none }) rfl (fun K hK => ?_) AllReadyH.nil)
    refine step_go (vs := #[.slice ka key.length kc]) rfl 14 _ Tryd.func14 hnm hbd _ _ rfl (by simp [Act.eval]) ?_
    refine C8.out.mono ?_
    rintro e w12 ⟨rfl, hb12⟩
    refine ⟨_, rfl, ?_⟩
    refine hK.out _ _ ?_ (fun hHeld => ?_)
    · exact below_on (Below.refl _ _).drew hb12
    clear hK K
    try simp only [Act.put, List.setIfInBounds_toArray, List.set_cons_zero, List.set_cons_succ]
    refine wpAnyH_take (i := 7) (oi := { dst := some 75, op := Op.binOp BinOp.neq 34 (Operand.tmp 69) (Operand.tmp 74) 34, type := 4, pos := "law.go:169", after := #[{ on := 1, ground := Ground.data }, { on := 6, ground := Ground.data }], guard := none }) (v := .bool true) rfl (by kernel_rfl) (by kernel_rfl) (by kernel_rfl) (fun _ _ _ h => h) (Or.inl ⟨by rfl, fun w _ => by go_simp⟩) (by assumption) ?_
    simp only [Act.put, List.setIfInBounds_toArray, List.set_cons_zero, List.set_cons_succ]
    refine wpAnyH_done (by kernel_rfl) ?_ _
    clear hHeld
    have HB12 := hide (below_on HB11.out (below_on (Below.refl _ _).drew hb12))
    clear hb12 EQ
    go_wp2
    go_ret
    exact ⟨by first | rfl | simp, HB12.out⟩

set_option maxRecDepth 100000 in
theorem feeLocks_lifted (os : Os) (started : os.Started) (H : Type) (enc : TypeId × Value → H) :
    ReturnsInHanded {} Tryd.checked os 7 .any (fun w args => (Rows.feeLocksSpec.pre enc Tryd.prog Tryd.f7 [] false w args ∧ laidMetH Tryd.prog laid1 w) ∧ sizedMet enc Tryd.prog Tryd.f7 (OpenSpec.ofChange Rows.feeLocksSpec) false w args)
      (Rows.feeLocksSpec.post enc Tryd.prog Tryd.f7 false true false false) := by
  refine returnsInHanded_of_change_and (C := Tryd.checked) (X := fun w _ => laidMetH Tryd.prog laid1 w) (fun _ _ _ hh h => h.of_heap hh) own started (by kernel_rfl) Tryd.func7
    (ChangeSpec.witness_shaped (enc := enc) (C := Tryd.checked) (os := os) (X := fun w _ => laidMetH Tryd.prog laid1 w) false (World.doorLaid Tryd.prog 14 os) #[.agg #[.int .u32 0, .slice none 0 0, .slice none 0 0, .slice none 0 0, .int .u8 0, .slice none 0 0]] 8 rfl (World.shaped_of_RefB (by kernel_rfl) (by kernel_rfl)) (by kernel_rfl) (by kernel_rfl) (by kernel_rfl) (door_met os _)) ?_
  intro W base args ds gs before hval0 hW _ _ hL _
  have hval : ∀ (j : Nat) t v, Tryd.f7.params[j]? = some t → args[j]? = some v → Value.okWide Tryd.prog W .any base t v := hval0
  have hW' := hW
  obtain ⟨p, q, hA0, hV, rfl, hfz, hnd⟩ := hW
  have hA : DataW.TrodAll enc Tryd.prog W 0 (fun _ => true) true Tryd.f7.params.toList args.toList ds p := hA0
  rw [Tryd.params7] at hA hval
  obtain ⟨v0, vs0, d0, ds0, p0, q0, hargs, rfl, rfl, h0, r0⟩ := trodAll_cons hA
  obtain ⟨rfl, rfl, rfl⟩ := trodAll_nil r0
  obtain rfl : args = #[v0] := by cases args; simp_all
  obtain ⟨rfl, rfl⟩ := trodVars_none hV
  have k0 := h0
  have lt0 : ∀ x ∈ p0, x.block < W.heap.size := by obtain ⟨m, hm⟩ := k0; exact DataW.trod_lt m _ _ _ hm
  obtain ⟨t0, iv0, ov0, pv0, l0, z0, kv0, key0, rfl, s0, w0, sp0, wp0, wz0, sk0, wk0⟩ := locked_arg (fun _ => rfl) (hval 0 64 v0 rfl rfl) h0
  clear hA0 hval0
  refine (feeLocks_walk (w := W) (ks_of_laid hL) t0 _ _ _ l0 z0 _ key0 s0 w0 sp0 wp0 wz0 sk0 wk0).mono fun e W' ⟨he, bel⟩ => ?_
  subst he
  exact ⟨_, rfl, _, _, _, [], _, [], hW', trodAll_mk1 (shut_bool Tryd.underlying4 _), (trodAll_cons_mk (Below.trod laidOut (by kernel_rfl) (of_decide_eq_true (by kernel_rfl)) k0 bel lt0) trodAll_mk0), rfl, bel.frame _, fun h => by cases h⟩

theorem feeLocks_holds : Rows.FeeLocksSaid :=
  OpenClaim.holds_of_wide 7 Tryd.f7 rfl rfl rfl rfl rfl rfl rfl ⟨rfl, rfl, rfl, rfl, rfl⟩ rfl rfl rfl rfl rfl (by kernel_rfl) Tryd.func7 (by kernel_rfl)
    (of_decide_eq_true (by kernel_rfl)) (by unfold Func.isWrapper; first | (rw [if_pos (by decide +kernel)]; kernel_rfl) | (rw [if_neg (by decide +kernel)]; exact ⟨rfl, rfl⟩))
    (fun os started H enc _ => feeLocks_lifted os started H enc)
#print axioms feeLocks_holds
theorem feeLocks_card : Rows.FeeLocksCardSaid :=
  Claim7.holds_tied_plain_at .later [] [.data] true (true, "85baf81c6edc530ebc6a8ace781ae8a87f889e51b0c1991837a95916fbd68c89") false
    feeLocks_holds (fun _ h => by cases h) (by kernel_rfl) (fun _ h => by cases h) feeLocks_row_tie rfl ⟨rfl, rfl⟩ (by kernel_rfl) rfl
    (fun f fn hf hfn => by
      obtain rfl : f = 7 := Option.some.inj ((show Tryd.prog.funcNamed "pappus/pappuslaw10.FeeLocks" = some 7 by kernel_rfl).symm.trans hf) |>.symm
      obtain rfl : fn = Tryd.f7 := (Option.some.inj (Tryd.func7.symm.trans hfn)).symm
      exact ⟨by kernel_rfl, fun j t ht => by
        rw [Tryd.params7] at ht
        have hm : t ∈ [64] := by simpa using Array.mem_of_getElem? ht
        have hall : ([64].all fun u => !Tryd.prog.wantsStandIn u) = true := by kernel_rfl
        exact (show Tryd.prog.wantsStandIn t = false by simpa using List.all_eq_true.1 hall t hm)⟩)
    (by kernel_rfl)
#print axioms feeLocks_card
end Go.Proofs.YtbeegcpmpgdbnaaDoor
