/- A part of the walk of PilePlays: K0. -/
import Derived.Test.YtlnpbffkcoibpaaFm
namespace Go.Proofs.Ytlnpbffkcoibpaa
open Go.RowKit
set_option maxRecDepth 100000 in
set_option maxHeartbeats 80000000 in
theorem plays_K0 : plays_cut.fst := by
  intro l m w hl hm ya yc zc HU b1 l1 b2 m1 w1 w2 b g w3 b' g' i0 u10 u47 u48 u49 u50 u51 u52 u53 u54 u55 u56 u57 u58 n xa xc hk hnk wA HBA ca cb HT i1 i2 i3 wr u4 u12 u13 u14 u15 u16 u17 u18 u19 u20 u21 u22 u23 u24 u25 u26 u62 u63 u64 u65 u66 u67 u68 u69 u70 u71 u72 u73 u74 u75 u76 u77 u78 u79 u80 u81 u82 u83 u84 u85 u86 u87 u88 u89 u90 u91 u92 u93 u94 u95 u96 u97 u98 u99 u100 u101 u102 u103 u104 u105 u106 u107 u108 u109 u110 u111 u112 u113 u114 u115 u116 u117 u118 u119 u120 u121 u122 u123 u124 u125 u126 u127 u128 u129 u130 u131 u132 u133 u134 u135 u136 u137 u138 u139 u140 u141 u142 u143 u144 u145 u146 u147 u148 u149 u150 u151 u152 u153 u154 u155 u156 u157 u158 u159 u160 u161 u162 u163 u164 u165 u166 u167 u168 u169 u170 u171 u172 u173 u174 u175 u176 u177 u178 u179 u180 u181 u182 u183 u184 u185 u186 u187 u188 u189 u190 u191 u192 u193 u194 u195 u196 u197 u198 u199 u200 u201 u202 u203 u204 u205 u206 u207 u208 u209 u210 u211 u212 u213 u214 u215 u216 u217 u218 u219 u220 u221 u222 u223 u224 u225 u226 u227 u228 u229 u230 u231 u232 u233 u234 u235 u236 u237 u238 u239 u240 u241 u242 u243 u244 u245 u246 u247 u248 u249 u250 u251 u252 u253 u254 u255 u256 u257 u258 u259 u260 u261 u262 u263 u264 u265 u266 u267 u268 u269 u270 u271 u272 u273 u274 u275 u276 u277 u278 u279 u280 u281 u282 u283 k gp gq A B hk' HNB hlt3 r off HV i4 i5 i6 i7 i8 wo ob va i9 i10 i11 ina inb nq wd HTD HBD i12 i13 i14 i15 i16 vb cb0 xa' xc' ca0 HIA HFA x uu o1 o2 HINA HINB HED i17 o0
  have hpu := push_any x HTD.out.1 (by have := HNB.out.2.2.1; omega)
  rw [show decide (x ∈ A) = ina from HINA.out] at hpu
  have HPU := Lib.hid hpu
  clear hpu
  cases ina with
  | true =>
    have HL := Lib.hid (show layL A 0 x = A from if_pos (of_decide_eq_true HINA.out))
    rw [HL.out, show (!true) = false from rfl] at HPU
    go_wp2_with fail
    refine HPU.out.mono ?_
    rintro e w5 ⟨g5, rfl, hp5, hc5, hn5⟩
    have hT5 := HTD.out.step (.one hc5) hp5 (HTD.out.2.1.far hc5 HTD.out.2.2.1) (HTD.out.2.2.1.newer hn5 HTD.out.2.1) hn5 (.inl rfl)
    have HT5 := Lib.hid hT5
    have HE5 := Lib.hid (HED.out.step (.one hc5) hn5 (.inl rfl))
    have HB5 := Lib.hid (HTD.out.below (.one hc5) HBD.out (Nat.le_refl _))
    have o0 : w5.cell? ⟨ob, 0, none⟩ = some (.int .i64 0) := by rw [cell_of_row w5 _ 0 _ _ _ HE5.out.1]; rfl
    clear hp5 hc5 hn5 hT5
    dsimp only
    go_wp2
    go_meet
    exact ⟨g5, gq, A, B, HT5, Lib.hid ⟨HNB.out.1, HNB.out.2.1, by have := HNB.out.2.2.1; omega, by have := HNB.out.2.2.2; omega⟩, HB5, HE5⟩
  | false =>
    have hna : x ∉ A := of_decide_eq_false HINA.out
    have HL := Lib.hid (show layL A 0 x = x :: A by unfold layL; rw [if_neg hna]; simp [insL])
    have HND := Lib.hid (List.nodup_cons.2 ⟨hna, HNB.out.1⟩)
    rw [HL.out, show (!false) = true from rfl] at HPU
    clear hna
    go_wp2_with fail
    refine HPU.out.mono ?_
    rintro e w5 ⟨g5, rfl, hp5, hc5, hn5⟩
    have hT5 := HTD.out.step (.one hc5) hp5 (HTD.out.2.1.far hc5 HTD.out.2.2.1) (HTD.out.2.2.1.newer hn5 HTD.out.2.1) hn5 (.inl rfl)
    have HT5 := Lib.hid hT5
    have HE5 := Lib.hid (HED.out.step (.one hc5) hn5 (.inl rfl))
    have HB5 := Lib.hid (HTD.out.below (.one hc5) HBD.out (Nat.le_refl _))
    have o0 : w5.cell? ⟨ob, 0, none⟩ = some (.int .i64 0) := by rw [cell_of_row w5 _ 0 _ _ _ HE5.out.1]; rfl
    have o1 : w5.cell? ⟨ob, 1, none⟩ = some (.int .i64 x) := by rw [cell_of_row w5 _ 1 _ _ _ HE5.out.1]; rfl
    obtain ⟨va, vb, h5, h6, h7, h8, h9, h10⟩ := hT5.2.2.2.2
    have ca5 : w5.cell? ⟨ca, 0, none⟩ = some va := by rw [cell_of_row w5 _ 0 _ _ _ h5]; rfl
    obtain ⟨xa5, xc5, rfl⟩ := h7.form
    have HI5 := Lib.hid (h7.later (below_new w5 (.cells #[.int .i64 x] 3)))
    have n0 : ca < w5.heap.size := (Array.getElem?_eq_some_iff.1 h5).1
    have n1 : ¬ ca = w5.heap.size := by omega
    have n2 : ¬ w5.heap.size = ca := by omega
    have ca5' := cell_stays (below_new w5 (.cells #[.int .i64 x] 3)) ca5
    clear hp5 hc5 hn5 h5 h6 h7 h8 h9 h10 hT5
    dsimp only
    go_wp2_with (at_builtin; refine wpList_append_ints rfl _ _ rfl rfl w5.heap.size _ 1 [.int .i64 x] rfl (World.ownsRow_lit w5 #[.int .i64 x] 1 (Nat.le_refl _) (by decide) rfl) _ _ _ A rfl rfl HI5.out (by have := HNB.out.2.2.1; omega) (by simp) ?f)
    case f =>
      intro v' w6 hown hgrow _
      have hb6 : Below w5.heap.size w5 w6 := (below_new w5 _).grown hgrow (by simp) (fun k hk => by
        have hk2 : some w5.heap.size = some k := hk
        injection hk2 with hk2
        exact Nat.le_of_eq hk2)
      have hT6 := HT5.out.later hb6
      have hi6 : IntsAt w6 v' (x :: A) := own_ints hown
      have hf6 : Free w6 v' b g5 b' gq ca cb := HT5.out.free (own_cap hown) (fun k hk => World.ownsRow.lt hown k hk)
      have HT6 := Lib.hid (hT6.putA hi6 hf6)
      have HE6 := Lib.hid ((HE5.out.later hb6).put HE5.out.2.2.2.1 v')
      have HB6 := Lib.hid ((stepB HB5.out hb6).setCell (p := ⟨ca, 0, none⟩) (HT5.out.2.2.2.1.2.2.2.2.2.1) v')
      obtain ⟨vc, _, h5, _⟩ := hT6.2.2.2.2
      have ca6 : w6.cell? ⟨ca, 0, none⟩ = some vc := by rw [cell_of_row w6 _ 0 _ _ _ h5]; rfl
      have fa6 : w6.frozen? ⟨ca, 0, none⟩ = false := frozen_of_row w6 _ 0 _ _ h5
      obtain ⟨xa6, xc6, rfl⟩ := hi6.form
      clear hown hgrow hb6 hT6 hi6 hf6 h5
      dsimp only
      go_wp2
      go_meet
      exact ⟨g5, gq, x :: A, B, HT6, Lib.hid ⟨HND.out, HNB.out.2.1, by have := HNB.out.2.2.1; simp; omega, by have := HNB.out.2.2.2; omega⟩, HB6, HE6⟩
end Go.Proofs.Ytlnpbffkcoibpaa
