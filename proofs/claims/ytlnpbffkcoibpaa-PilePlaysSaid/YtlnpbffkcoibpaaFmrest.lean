/- A part of the walk of PilePlays: REST. -/
import Derived.Test.YtlnpbffkcoibpaaFm
namespace Go.Proofs.Ytlnpbffkcoibpaa
open Go.RowKit
set_option maxRecDepth 100000 in
set_option maxHeartbeats 80000000 in
theorem plays_REST : plays_cut.snd.snd.snd.snd.snd.snd.snd.snd.snd.snd.snd.snd.snd.snd.fst := by
  intro l m w hl hm ya yc zc HU b1 l1 b2 m1 w1 w2 b g w3 b' g' i0 u10 u47 u48 u49 u50 u51 u52 u53 u54 u55 u56 u57 u58 n xa xc hk hnk wA HBA ca cb HT i1 i2 i3 wr i4 u12 u13 u14 i5 i6 i7 i8 i9 i10 i11 i12 u23 u24 u25 u26 i13 i14 i15 i16 i17 i18 i19 i20 i21 i22 i23 i24 u74 i25 i26 i27 i28 i29 i30 i31 i32 i33 i34 i35 i36 i37 i38 i39 i40 i41 i42 i43 i44 i45 i46 i47 i48 i49 i50 i51 i52 i53 i54 i55 i56 i57 i58 i59 i60 i61 i62 i63 i64 i65 i66 i67 i68 i69 i70 i71 i72 i73 i74 i75 i76 i77 i78 i79 i80 i81 i82 i83 i84 i85 i86 i87 i88 i89 i90 i91 i92 i93 i94 i95 i96 i97 i98 i99 i100 i101 i102 i103 i104 i105 i106 i107 i108 i109 i110 i111 i112 i113 i114 i115 i116 i117 i118 i119 i120 i121 i122 i123 i124 i125 i126 i127 i128 i129 i130 i131 i132 i133 i134 i135 i136 i137 i138 i139 i140 i141 i142 i143 i144 i145 i146 i147 i148 i149 i150 i151 i152 i153 i154 i155 i156 i157 i158 i159 i160 i161 i162 i163 i164 i165 i166 i167 i168 i169 i170 i171 i172 i173 i174 i175 i176 i177 i178 i179 i180 i181 i182 i183 i184 i185 i186 i187 i188 i189 i190 i191 i192 i193 i194 i195 i196 i197 i198 i199 i200 i201 i202 i203 i204 u255 u256 u257 i205 i206 i207 i208 i209 i210 i211 i212 i213 i214 i215 i216 i217 i218 i219 i220 i221 i222 i223 i224 i225 i226 i227 i228 i229 i230 k gp gq A B hk' HNB hlt3 r off o HV i231 i232 i233 i234 i235 wo ob va vb i236 i237 ina inb HINA HINB nq wd HTD HED HBD u4 u15 u16 u17 u18 u19 u20 u21 u22 u62 u63 u64 u65 u66 u67 u68 u69 u70 u71 u72 u73 u75 u76 u77 u78 u79 u80 u81 u82 u83 u84 u85 u86 u87 u88 u89 u90 u91 u92 u93 u94 u95 u96 u97 u98 u99 u100 u101 u102 u103 u104 u105 u106 u107 u108 u109 u110 u111 u112 u113 u114 u115 u116 u117 u118 u119 u120 u121 u122 u123 u124 u125 u126 u127 u128 u129 u130 u131 u132 u133 u134 u135 u136 u137 u138 u139 u140 u141 u142 u143 u144 u145 u146 u147 u148 u149 u150 u151 u152 u153 u154 u155 u156 u157 u158 u159 u160 u161 u162 u163 u164 u165 u166 u167 u168 u169 u170 u171 u172 u173 u174 u175 u176 u177 u178 u179 u180 u181 u182 u183 u184 u185 u186 u187 u188 u189 u190 u191 u192 u193 u194 u195 u196 u197 u198 u199 u200 u201 u202 u203 u204 u205 u206 u207 u208 u209 u210 u211 u212 u213 u214 u215 u216 u217 u218 u219 u220 u221 u222 u223 u224 u225 u226 u227 u228 u229 u230 u231 u232 u233 u234 u235 u236 u237 u238 u239 u240 u241 u242 u243 u244 u245 u246 u247 u248 u249 u250 u251 u252 u253 u254 u258 u259 u260 u261 u262 u263 u264 u265 u266 u267 u268 u269 u270 u271 u272 u273 u274 u275 u276 u277 u278 u279 u280 u281 u282 u283 gp' gq' A' B' HN2 xa2 xc2 xb2 xd2 ba bb inx HINX hbb wF HT2 HB2 HE2 o12 ca2 cb2 HIA HIB i238 i239 i240 i241 i242 i243 i244 i245
  go_region_held3 (fun w' => Below wF.heap.size wF w' ∧ w'.cell? ⟨ca, 0, none⟩ = some (.slice xa2 A'.length xc2) ∧ w'.cell? ⟨cb, 0, none⟩ = some (.slice xb2 B'.length xd2) ∧ w'.cell? ⟨ob, 1, none⟩ = some (.int .i64 o.x))
    (first | assumption | exact keepPP (by assumption) (below_drewN (Below.refl _ _) _) | exact keepPP (by assumption) (by assumption) | exact keepPP ⟨Below.refl _ _, ca2, cb2, o12⟩ ((Below.refl _ _).drew) | exact ⟨Below.refl _ _, ca2, cb2, o12⟩)
    (first
      | (go_at_call_of 18 (Value.pointer (some ⟨b, 0, none⟩)); refine (list_any (HT2.out.1.later (And.left (by assumption))) (by omega)).mono ?_; rintro e w6 ⟨v6, rfl, ho6, hb6⟩; obtain ⟨xa6, xc6, rfl⟩ := (own_ints ho6).form; have hi6 := own_ints ho6)
      | (go_at_call_of 18 (Value.pointer (some ⟨b', 0, none⟩)); refine (list_any (HT2.out.2.1.later (And.left (by assumption))) (by omega)).mono ?_; rintro e w8 ⟨v8, rfl, ho8, hb8⟩; obtain ⟨xa8, xc8, rfl⟩ := (own_ints ho8).form; have hi8 := own_ints ho8)
      | (go_at_call 17; refine (ints_same hi8 (HIB.out.later (And.left (by assumption))) (by omega)).mono ?_; rintro e w9 ⟨rfl, nd9, rfl⟩)
      | (go_at_call 17; refine (ints_same hi6 (HIA.out.later (And.left (by assumption))) (by omega)).mono ?_; rintro e w7 ⟨rfl, nd7, rfl⟩)
      | (go_at_call 19; refine (len_any (HT2.out.1.later (And.left (by assumption)))).mono ?_; rintro e w10 ⟨rfl, rfl⟩)
      | (go_at_call 20; refine (has_any o.x (HT2.out.1.later (And.left (by assumption))) (by omega)).mono ?_; rw [HINX.out]; rintro e w11 ⟨rfl, hb11⟩)
      | (go_at_call 10; refine (hasRef_any o.x (HIA.out.later (And.left (by assumption))) (by omega)).mono ?_; rw [HINX.out]; rintro e w12 ⟨rfl, rfl⟩)
      | (fail "arm"))
  all_goals
    have hB : Below wF.heap.size wF _ := And.left (by assumption)
    go_wp2_with fail
    go_meet
    exact ⟨rfl, Lib.hid hB⟩
end Go.Proofs.Ytlnpbffkcoibpaa
