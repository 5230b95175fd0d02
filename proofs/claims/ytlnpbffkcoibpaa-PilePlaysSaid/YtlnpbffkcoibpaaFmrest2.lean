/- A part of the walk of PilePlays: REST2. -/
import Derived.Test.YtlnpbffkcoibpaaFm
namespace Go.Proofs.Ytlnpbffkcoibpaa
open Go.RowKit
set_option maxRecDepth 100000 in
set_option maxHeartbeats 80000000 in
theorem plays_REST2 : plays_cut.snd.snd.snd.snd.snd.snd.snd.snd.snd.snd.snd.snd.snd.snd.snd.fst := by
  intro l m w hl hm ya yc zc HU b1 l1 b2 m1 w1 w2 b g w3 b' g' i0 u10 u47 u48 u49 u50 u51 u52 u53 u54 u55 u56 u57 u58 n xa xc hk hnk wA HBA ca cb HT i1 i2 i3 wr i4 u12 u13 u14 i5 i6 i7 i8 i9 i10 i11 i12 u23 u24 u25 u26 i13 i14 i15 i16 i17 i18 i19 i20 i21 i22 i23 i24 u74 i25 i26 i27 i28 i29 i30 i31 i32 i33 i34 i35 i36 i37 i38 i39 i40 i41 i42 i43 i44 i45 i46 i47 i48 i49 i50 i51 i52 i53 i54 i55 i56 i57 i58 i59 i60 i61 i62 i63 i64 i65 i66 i67 i68 i69 i70 i71 i72 i73 i74 i75 i76 i77 i78 i79 i80 i81 i82 i83 i84 i85 i86 i87 i88 i89 i90 i91 i92 i93 i94 i95 i96 i97 i98 i99 i100 i101 i102 i103 i104 i105 i106 i107 i108 i109 i110 i111 i112 i113 i114 i115 i116 i117 i118 i119 i120 i121 i122 i123 i124 i125 i126 i127 i128 i129 i130 i131 i132 i133 i134 i135 i136 i137 i138 i139 i140 i141 i142 i143 i144 i145 i146 i147 i148 i149 i150 i151 i152 i153 i154 i155 i156 i157 i158 i159 i160 i161 i162 i163 i164 i165 i166 i167 i168 i169 i170 i171 i172 i173 i174 i175 i176 i177 i178 i179 i180 i181 i182 i183 i184 i185 i186 i187 i188 i189 i190 i191 i192 i193 i194 i195 i196 i197 i198 i199 i200 i201 i202 i203 i204 u255 u256 u257 i205 i206 i207 i208 i209 i210 i211 i212 i213 i214 i215 i216 i217 i218 i219 i220 i221 i222 i223 i224 i225 i226 i227 i228 i229 i230 k gp gq A B hk' HNB hlt3 r off o HV i231 i232 i233 i234 i235 wo ob va vb i236 i237 ina inb HINA HINB nq wd HTD HED HBD u4 u15 u16 u17 u18 u19 u20 u21 u22 i238 i239 i240 i241 i242 i243 i244 i245 i246 i247 i248 i249 u75 i250 i251 i252 i253 i254 i255 i256 i257 i258 i259 i260 i261 i262 i263 i264 i265 i266 i267 i268 i269 i270 i271 i272 i273 i274 i275 i276 i277 i278 i279 i280 i281 i282 i283 i284 i285 i286 i287 i288 i289 i290 i291 i292 i293 u120 i294 i295 i296 i297 i298 i299 i300 i301 i302 i303 i304 i305 i306 i307 i308 i309 i310 i311 i312 i313 i314 i315 i316 i317 i318 i319 i320 i321 i322 i323 i324 i325 u153 i326 i327 i328 i329 i330 i331 i332 i333 i334 i335 i336 u165 i337 i338 i339 i340 i341 i342 i343 i344 i345 i346 i347 i348 i349 i350 i351 i352 i353 i354 i355 i356 i357 i358 i359 i360 i361 i362 i363 i364 i365 i366 i367 i368 i369 i370 i371 i372 i373 i374 i375 i376 i377 i378 i379 i380 i381 i382 i383 i384 i385 i386 i387 i388 i389 i390 i391 i392 i393 i394 i395 i396 i397 i398 i399 i400 i401 i402 i403 i404 i405 i406 i407 i408 i409 i410 i411 i412 i413 i414 i415 i416 i417 i418 i419 i420 i421 i422 i423 i424 u254 i425 i426 i427 i428 i429 i430 i431 i432 i433 i434 i435 i436 i437 i438 i439 i440 i441 i442 i443 i444 i445 i446 i447 i448 i449 i450 gp' gq' A' B' HN2 xa2 xc2 xb2 xd2 ba bb inx HINX hbb wF HT2 HB2 HE2 o12 ca2 cb2 HIA HIB i451 i452 i453 i454 wc u62 u63 u64 u65 u66 u67 u68 u69 u70 u71 u72 u73 u76 u77 u78 u79 u80 u81 u82 u83 u84 u85 u86 u87 u88 u89 u90 u91 u92 u93 u94 u95 u96 u97 u98 u99 u100 u101 u102 u103 u104 u105 u106 u107 u108 u109 u110 u111 u112 u113 u114 u115 u116 u117 u118 u119 u121 u122 u123 u124 u125 u126 u127 u128 u129 u130 u131 u132 u133 u134 u135 u136 u137 u138 u139 u140 u141 u142 u143 u144 u145 u146 u147 u148 u149 u150 u151 u152 u154 u155 u156 u157 u158 u159 u160 u161 u162 u163 u164 u166 u167 u168 u169 u170 u171 u172 u173 u174 u175 u176 u177 u178 u179 u180 u181 u182 u183 u184 u185 u186 u187 u188 u189 u190 u191 u192 u193 u194 u195 u196 u197 u198 u199 u200 u201 u202 u203 u204 u205 u206 u207 u208 u209 u210 u211 u212 u213 u214 u215 u216 u217 u218 u219 u220 u221 u222 u223 u224 u225 u226 u227 u228 u229 u230 u231 u232 u233 u234 u235 u236 u237 u238 u239 u240 u241 u242 u243 u244 u245 u246 u247 u248 u249 u250 u251 u252 u253 u258 u259 u260 u261 u262 u263 u264 u265 u266 u267 u268 u269 u270 u271 u272 u273 u274 u275 u276 u277 u278 u279 u280 u281 u282 u283 HB3
  have HT3 := Lib.hid (HT2.out.later HB3.out)
  have HI3 := Lib.hid (HIA.out.later HB3.out)
  have HB4 := Lib.hid (stepB HB2.out HB3.out)
  have ca3 := cell_stays HB3.out ca2
  obtain ⟨wG, rfl⟩ : ∃ wG, wG = wc := ⟨_, rfl⟩
  clear ca2 cb2 o12 hbb
  go_wp2
  go_loopw [257] (fun i wq => ∃ q : Nat, q ≤ A'.length ∧ i = .int .i64 q ∧ Hid (Below wG.heap.size wG wq)) (fun i _ => A'.length - (intOf i).toNat)
  case atStart => exact ⟨0, Nat.zero_le _, rfl, Lib.hid (Below.refl _ _)⟩
  case round =>
    obtain ⟨q, hq, rfl, HV2⟩ := hrel
    by_cases hlt5 : q < A'.length
    · obtain ⟨r7, o7, rfl, _, c7⟩ := (HI3.out.later HV2.out).at q hlt5
      have hpl := place_at HN2.out.1 hlt5
      have hat := at_in (HT3.out.1.later HV2.out) hlt5
      obtain ⟨y, hy⟩ : ∃ y, A'[q] = y := ⟨_, rfl⟩
      rw [hy] at c7 hpl hat
      have hpl2 := place_any y (HT3.out.1.later HV2.out) (by omega)
      rw [hpl] at hpl2
      have HAT := Lib.hid hat
      have HPL := Lib.hid hpl2
      clear hpl hat hy hpl2
      go_wp2_with fail
      refine HAT.out.mono ?_
      rintro e w8 ⟨rfl, rfl⟩
      dsimp only
      go_wp2_with fail
      refine HPL.out.mono ?_
      rintro e w9 ⟨rfl, hb9⟩
      have HV3 := Lib.hid (stepB HV2.out hb9)
      clear hb9
      dsimp only
      go_wp2
      go_roundw
      case rel => exact ⟨q + 1, by omega, by go_num, HV3⟩
      case measure => simp [intOf]; omega
    · obtain rfl : A'.length = q := by omega
      go_wp2
      go_roundw
      case rel => exact ⟨k + 1, gp', gq', A', B', by omega, by go_num, Lib.hid (HT3.out.later HV2.out), HN2, Lib.hid (stepB HB4.out HV2.out)⟩
      case measure => simp [intOf]; omega
end Go.Proofs.Ytlnpbffkcoibpaa
