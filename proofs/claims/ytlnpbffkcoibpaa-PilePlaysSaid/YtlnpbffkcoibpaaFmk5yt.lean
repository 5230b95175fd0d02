/- A part of the walk of PilePlays: K5yt. -/
import Derived.Test.YtlnpbffkcoibpaaFm
namespace Go.Proofs.Ytlnpbffkcoibpaa
open Go.RowKit
set_option maxRecDepth 100000 in
set_option maxHeartbeats 80000000 in
theorem plays_K5yt : plays_cut.snd.snd.snd.snd.snd.snd.snd.snd.snd.snd.snd.snd.fst := by
  intro l m w hl hm ya yc zc HU b1 l1 b2 m1 w1 w2 b g w3 b' g' i0 u10 u47 u48 u49 u50 u51 u52 u53 u54 u55 u56 u57 u58 n xa xc hk hnk wA HBA ca cb HT i1 i2 i3 wr u4 u12 u13 u14 u15 u16 u17 u18 u19 u20 u21 u22 u23 u24 u25 u26 u62 u63 u64 u65 u66 u67 u68 u69 u70 u71 u72 u73 u74 u75 u76 u77 u78 u79 u80 u81 u82 u83 u84 u85 u86 u87 u88 u89 u90 u91 u92 u93 u94 u95 u96 u97 u98 u99 u100 u101 u102 u103 u104 u105 u106 u107 u108 u109 u110 u111 u112 u113 u114 u115 u116 u117 u118 u119 u120 u121 u122 u123 u124 u125 u126 u127 u128 u129 u130 u131 u132 u133 u134 u135 u136 u137 u138 u139 u140 u141 u142 u143 u144 u145 u146 u147 u148 u149 u150 u151 u152 u153 u154 u155 u156 u157 u158 u159 u160 u161 u162 u163 u164 u165 u166 u167 u168 u169 u170 u171 u172 u173 u174 u175 u176 u177 u178 u179 u180 u181 u182 u183 u184 u185 u186 u187 u188 u189 u190 u191 u192 u193 u194 u195 u196 u197 u198 u199 u200 u201 u202 u203 u204 u205 u206 u207 u208 u209 u210 u211 u212 u213 u214 u215 u216 u217 u218 u219 u220 u221 u222 u223 u224 u225 u226 u227 u228 u229 u230 u231 u232 u233 u234 u235 u236 u237 u238 u239 u240 u241 u242 u243 u244 u245 u246 u247 u248 u249 u250 u251 u252 u253 u254 u255 u256 u257 u258 u259 u260 u261 u262 u263 u264 u265 u266 u267 u268 u269 u270 u271 u272 u273 u274 u275 u276 u277 u278 u279 u280 u281 u282 u283 k gp gq A B hk' HNB hlt3 r off HV i4 i5 i6 i7 i8 wo ob va i9 i10 i11 nq wd HTD HBD i12 i13 i14 i15 i16 vb cb0 xa' xc' ca0 HIA HFA x o1 o0 h0 h1 h2 h3 h4 hT o2 HED HINA HINB i17
  have hpu := turn_yes x true HTD.out.2.1 HTD.out.1 HTD.out.2.2.1.flip (by have := HNB.out.2.2.2; omega) (by have := HNB.out.2.2.1; omega) hT
  rw [erase_without x HNB.out.2.1] at hpu
  have HPU := Lib.hid hpu
  have hnx : x ∉ A := of_decide_eq_false HINA.out
  have HNN := Lib.hid (show (A ++ [x]).Nodup from by have h := lay_nodup x HNB.out.1; unfold layL at h; rwa [if_neg hnx, ins_end] at h)
  clear hT hpu hnx
  go_wp2_with fail
  refine HPU.out.mono ?_
  rintro e w5 ⟨g5, rfl, hp5, hq5, hs5, hc5, hn5⟩
  replace hq5 : PileAt w5 w.heap.size b g5 (A ++ [x]) := hq5
  have hT5 := HTD.out.step hc5.flip hq5 hp5 hs5.flip hn5 (.inl rfl)
  have HE5 := Lib.hid (HED.out.step hc5.flip hn5 (.inl rfl))
  have HB5 := Lib.hid (HTD.out.below hc5.flip HBD.out (Nat.le_refl _))
  have HT5 := Lib.hid hT5
  have o1 : w5.cell? ⟨ob, 1, none⟩ = some (.int .i64 x) := by rw [cell_of_row w5 _ 1 _ _ _ HE5.out.1]; rfl
  obtain ⟨va, vb, h5, h6, h7, h8, h9, h10⟩ := hT5.2.2.2.2
  have ca5 : w5.cell? ⟨ca, 0, none⟩ = some va := by rw [cell_of_row w5 _ 0 _ _ _ h5]; rfl
  have cb5 : w5.cell? ⟨cb, 0, none⟩ = some vb := by rw [cell_of_row w5 _ 0 _ _ _ h6]; rfl
  obtain ⟨xa5, xc5, rfl⟩ := h7.form
  obtain ⟨xb5, xd5, rfl⟩ := h8.form
  have HIA5 := Lib.hid h7
  have HIB5 := Lib.hid h8
  have la := HNB.out.2.2.1
  have lb := HNB.out.2.2.2
  clear hp5 hq5 hs5 hc5 hn5 hT5 h5 h6 h7 h8 h9 h10
  dsimp only
  go_upto_region 45 with fail
  go_cut [] (fun wx => Hid (Two wx w.heap.size b g5 b' gq ca cb (A ++ [x]) (withoutL B x) A (withoutL B x)) ∧ Hid (Ext wx b g5 b' gq ca cb ob (boxO ⟨5, x, true⟩)) ∧ Hid (Below w.heap.size w wx))
  case first =>
    as_aux_lemma =>
      rename_i jC kC hjC hkC
      go_wp2
      go_region_with ((go_at_call 15; refine (out_any x (IntsAt.later HIB5.out (Below.refl _ _).drew) (by omega)).mono ?_; rintro e w8 ⟨v8, rfl, ho8, hb8⟩; have hb8' : Below w5.heap.size w5 w8 := stepB (Below.refl _ _).drew hb8; have hT8 := HT5.out.later hb8'; obtain ⟨vc, vd, h85, h86, _⟩ := hT8.2.2.2.2; have c8 : w8.cell? ⟨cb, 0, none⟩ = some vd := (by rw [cell_of_row w8 _ 0 _ _ _ h86]; rfl); have f8 : w8.frozen? ⟨cb, 0, none⟩ = false := frozen_of_row w8 _ 0 _ _ h86; have HI8 := Lib.hid (own_ints ho8); have HF8 : Hid (Free w8 v8 b g5 b' gq ca cb) := Lib.hid (HT5.out.free (own_cap ho8) (fun k hk => World.ownsRow.lt ho8 k hk)); obtain ⟨xa8, xc8, rfl⟩ := HI8.out.form; clear h85 h86 ho8; dsimp only))
      all_goals
        have HT9 := Lib.hid (hT8.putB HI8.out HF8.out)
        have HE9 := Lib.hid ((HE5.out.later hb8').put HE5.out.2.2.2.2.1 (.slice xa8 (withoutL B x).length xc8))
        have HB9 := Lib.hid ((stepB HB5.out hb8').setCell (p := ⟨cb, 0, none⟩) HT5.out.2.2.2.1.2.2.2.2.2.2.1 (.slice xa8 (withoutL B x).length xc8))
        clear hT8 hb8 hb8' ca5 cb5 o1 c8 f8
        go_wp2
        refine Met.intro (hjC _ _ ?_)
        (repeat apply Exists.intro)
        exact ⟨⟨HT9, HE9, HB9⟩, rfl⟩
  case rest =>
    as_aux_lemma =>
      obtain ⟨HT9, HE9, HB9⟩ := hcut
      obtain ⟨w9, rfl⟩ : ∃ w9, w9 = wc := ⟨_, rfl⟩
      clear ca5 cb5 o1
      have o19 : w9.cell? ⟨ob, 1, none⟩ = some (.int .i64 x) := by rw [cell_of_row w9 _ 1 _ _ _ HE9.out.1]; rfl
      have o29 : w9.cell? ⟨ob, 2, none⟩ = some (.bool true) := by rw [cell_of_row w9 _ 2 _ _ _ HE9.out.1]; rfl
      obtain ⟨va, vb, h5, h6, h7, h8, _, _⟩ := HT9.out.2.2.2.2
      have c9 : w9.cell? ⟨ca, 0, none⟩ = some va := by rw [cell_of_row w9 _ 0 _ _ _ h5]; rfl
      have n0 : ca < w9.heap.size := (Array.getElem?_eq_some_iff.1 h5).1
      have hI9 := h7
      obtain ⟨xa9, xc9, rfl⟩ := hI9.form
      clear h5 h6 h7 h8
      have hE := (below_new w9 (.cells #[] 3)).drew
      have hX := (below_new w9 (.cells #[.int .i64 x] 3)).drew
      have hEX0 := stepB (below_new w9 (.cells #[] 3)) (below_new (w9.alloc (.cells #[] 3)) (.cells #[.int .i64 x] 3))
      have hEX := hEX0.drew
      have hXE0 := stepB (below_new w9 (.cells #[.int .i64 x] 3)) (below_new (w9.alloc (.cells #[.int .i64 x] 3)) (.cells #[] 3))
      have hXE := hXE0.drew
      have cE := cell_stays (below_new w9 (.cells #[] 3)) c9
      have cX := cell_stays (below_new w9 (.cells #[.int .i64 x] 3)) c9
      have cEX := cell_stays hEX0 c9
      have cXE := cell_stays hXE0 c9
      have oE := cell_stays (below_new w9 (.cells #[] 3)) o19
      have oX := cell_stays (below_new w9 (.cells #[.int .i64 x] 3)) o19
      have oEX := cell_stays hEX0 o19
      have oXE := cell_stays hXE0 o19
      have own1 : (w9.alloc (.cells #[] 3)).ownsRow w9.heap.size 3 1 (.slice (some ⟨w9.heap.size, 0, none⟩) 0 0) 0 [] := own_empty1 rfl (Nat.le_refl _)
      have own2 := (own1.alloc (.cells #[.int .i64 x] 3)).drew
      have own3 := (show ((w9.alloc (.cells #[.int .i64 x] 3)).alloc (.cells #[] 3)).ownsRow w9.heap.size 3 1 (.slice (some ⟨w9.heap.size + 1, 0, none⟩) 0 0) 0 [] from own_empty1 (by simp) (by simp)).drew
      replace own1 := own1.drew
      have rX2 : RowAt ((w9.alloc (.cells #[] 3)).alloc (.cells #[.int .i64 x] 3)).drew (w9.heap.size + 1) 3 (intsV [x]) := by
        have h := RowAt.new (w9.alloc (.cells #[] 3)) 3 (intsV [x])
        rw [World.size_alloc] at h
        exact h
      have rX3 : RowAt ((w9.alloc (.cells #[.int .i64 x] 3)).alloc (.cells #[] 3)).drew w9.heap.size 3 (intsV [x]) := (RowAt.new w9 3 (intsV [x])).later (below_new (w9.alloc (.cells #[.int .i64 x] 3)) (.cells #[] 3)).drew
      go_wp2
      go_region_law ((first
        | (refine step_append_ints rfl _ _ rfl rfl w9.heap.size _ 0 [] rfl own1 _ A.length _ A rfl rfl (IntsAt.later hI9 hE) (by omega) hE.size ?_; intro v6 w6 hown6 hgrow6 _; have hb6 := hE.grown hgrow6 hE.size (fun k hk => Nat.le_of_eq (Option.some.inj (show some w9.heap.size = some k from hk))); have o6 := cell_stays hb6 o19; obtain ⟨xa6, xc6, rfl⟩ := (own_ints hown6).form)
        | (refine step_append_ints rfl _ _ rfl rfl w9.heap.size _ 0 [] rfl own2 _ A.length _ A rfl rfl (IntsAt.later hI9 hEX) (by omega) hEX.size ?_; intro v6 w6 hown6 hgrow6 _; have hb6 := hEX.grown hgrow6 hEX.size (fun k hk => Nat.le_of_eq (Option.some.inj (show some w9.heap.size = some k from hk))); have r6 : RowAt w6 (w9.heap.size + 1) 3 (intsV [x]) := (hgrow6.block (w9.heap.size + 1) (by simp) (fun e => by have := Option.some.inj (show some (w9.heap.size + 1) = some w9.heap.size from e); omega)).trans rX2; have o6 := cell_stays hb6 o19; obtain ⟨xa6, xc6, rfl⟩ := (own_ints hown6).form)
        | (refine step_append_ints rfl _ _ rfl rfl w9.heap.size _ 0 [] rfl own3 _ A.length _ A rfl rfl (IntsAt.later hI9 hXE) (by omega) hXE.size ?_; intro v6 w6 hown6 hgrow6 _; have hb6 := hXE.grown hgrow6 hXE.size (fun k hk => by have := Option.some.inj (show some (w9.heap.size + 1) = some k from hk); omega); have r6 : RowAt w6 w9.heap.size 3 (intsV [x]) := (hgrow6.block w9.heap.size (by simp; omega) (fun e => by have := Option.some.inj (show some w9.heap.size = some (w9.heap.size + 1) from e); omega)).trans rX3; have o6 := cell_stays hb6 o19; obtain ⟨xa6, xc6, rfl⟩ := (own_ints hown6).form)
        | (refine step_append_ints rfl _ _ rfl rfl w9.heap.size _ _ _ rfl (hown6.alloc (.cells #[.int .i64 x] 3)) _ 1 1 [x] rfl rfl ((RowAt.new w6 3 (intsV [x])).vals 1) (by simp; omega) (Nat.le_trans hb6.size (by simp)) ?_; intro v7 w7 hown7 hgrow7 _; have hb7 := (stepB hb6 (below_new w6 (.cells #[.int .i64 x] 3))).grown hgrow7 (Nat.le_trans hb6.size (by simp)) (fun k hk => (World.ownsRow.lt hown6 k hk).1); have e7 : [] ++ intsV A ++ intsV [x] = intsV (A ++ [x]) := (by simp [intsV]); rw [e7] at hown7; have hT7 := HT9.out.later hb7; have hi7 : IntsAt w7 v7 (A ++ [x]) := own_ints hown7; have hf7 : Free w7 v7 b g5 b' gq ca cb := HT9.out.free (own_cap hown7) (fun k hk => World.ownsRow.lt hown7 k hk); have HT7 := Lib.hid (hT7.putA hi7 hf7); have HE7 := Lib.hid ((HE9.out.later hb7).put HE9.out.2.2.2.1 v7); have HB7 := Lib.hid ((stepB HB9.out hb7).setCell (p := ⟨ca, 0, none⟩) (HT9.out.2.2.2.1.2.2.2.2.2.1) v7); obtain ⟨vc, _, h75, _⟩ := hT7.2.2.2.2; have ca7 : w7.cell? ⟨ca, 0, none⟩ = some vc := (by rw [cell_of_row w7 _ 0 _ _ _ h75]; rfl); have fa7 : w7.frozen? ⟨ca, 0, none⟩ = false := frozen_of_row w7 _ 0 _ _ h75; obtain ⟨xa7, xc7, hv7⟩ := hi7.form; rw [show (A ++ [x]).length = A.length + 1 from (by simp)] at hv7; subst hv7; clear hown7 hgrow7 hb7 hT7 hi7 hf7 h75)
        | (refine step_append_ints rfl _ _ rfl rfl w9.heap.size _ _ _ rfl hown6 _ 1 1 [x] rfl rfl (r6.vals 1) (by simp; omega) hb6.size ?_; intro v7 w7 hown7 hgrow7 _; have hb7 := hb6.grown hgrow7 hb6.size (fun k hk => (World.ownsRow.lt hown6 k hk).1); have e7 : [] ++ intsV A ++ intsV [x] = intsV (A ++ [x]) := (by simp [intsV]); rw [e7] at hown7; have hT7 := HT9.out.later hb7; have hi7 : IntsAt w7 v7 (A ++ [x]) := own_ints hown7; have hf7 : Free w7 v7 b g5 b' gq ca cb := HT9.out.free (own_cap hown7) (fun k hk => World.ownsRow.lt hown7 k hk); have HT7 := Lib.hid (hT7.putA hi7 hf7); have HE7 := Lib.hid ((HE9.out.later hb7).put HE9.out.2.2.2.1 v7); have HB7 := Lib.hid ((stepB HB9.out hb7).setCell (p := ⟨ca, 0, none⟩) (HT9.out.2.2.2.1.2.2.2.2.2.1) v7); obtain ⟨vc, _, h75, _⟩ := hT7.2.2.2.2; have ca7 : w7.cell? ⟨ca, 0, none⟩ = some vc := (by rw [cell_of_row w7 _ 0 _ _ _ h75]; rfl); have fa7 : w7.frozen? ⟨ca, 0, none⟩ = false := frozen_of_row w7 _ 0 _ _ h75; obtain ⟨xa7, xc7, hv7⟩ := hi7.form; rw [show (A ++ [x]).length = A.length + 1 from (by simp)] at hv7; subst hv7; clear hown7 hgrow7 hb7 hT7 hi7 hf7 h75)
        | (trace_state; fail "x")))
      all_goals
        as_aux_lemma =>
          go_wp2_with fail
          go_meet
          exact ⟨g5, gq, A ++ [x], withoutL B x, HT7, Lib.hid ⟨HNN.out, without_nodup x HNB.out.2.1, by simp; omega, by have := without_len B x; omega⟩, HB7, HE7⟩
end Go.Proofs.Ytlnpbffkcoibpaa
