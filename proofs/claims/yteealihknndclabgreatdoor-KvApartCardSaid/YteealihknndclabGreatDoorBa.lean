/- A tree of keys, in plain words: the bytes of its head and its nodes, and how they are read. -/
import Derived.Test.YteealihknndclabGreatDoorGe
import Derived.WalkKit
import Derived.Test.YteealihknndclabGreatDoorBase
import Derived.Test.YteealihknndclabGreatDoorProg
import Derived.WalkSpells
import Derived.WalkLawsBesides
import Derived.Deep.RegionHeld3
import Derived.Deep.QuietTactic
import Derived.BigQuiet
import Derived.Laws.CopyOwn
namespace Go.Proofs.YteealihknndclabGreatDoor
open Go.RowKit
namespace S
structure Ent where
 key : List UInt8
 val : List UInt8
 page : Nat
def wC (lv : Nat) (x : Ent) : List UInt8 := text x.key ++ (if lv = 0 then text x.val else num x.page 2)
def dJ (lv : Nat) (es : List Ent) : List UInt8 := es.flatMap (wC lv)
def aN (lv : Nat) (es : List Ent) : List UInt8 := num lv 1 ++ (num es.length 2 ++ dJ lv es)
def gu : List UInt8 := [107, 101, 121, 115, 32, 105, 110, 32, 111, 114, 100, 101, 114]
def dM (n root lv : Nat) (used : List UInt8) : List UInt8 := text gu ++ (num n 4 ++ (num root 2 ++ (num lv 1 ++ text used)))
def aO (t : List UInt8) : List UInt8 := text t ++ zeros (1022 - t.length)
theorem jC (t : List UInt8) (h : t.length <= 1022) : (aO t).length = 1024 := by
 unfold aO
 rw [List.length_append, text_length, zeros_length, Nat.mod_eq_of_lt (by omega)]
 omega
structure jT (lv : Nat) (x : Ent) : Prop where
 key : x.key.length <= 40
 val : x.val.length <= 400
 page : x.page < 65536
 no : if lv = 0 then x.page = 0 else x.val = []
theorem qy {lv : Nat} {x : Ent} (h : jT lv x) : (wC lv x).length = 4 + x.key.length + x.val.length := by
 have h1 := h.key
 have h2 := h.val
 have h3 := h.no
 unfold wC
 rw [List.length_append, text_length, Nat.mod_eq_of_lt (by omega)]
 by_cases e : lv = 0
 ·rw [if_pos e, text_length, Nat.mod_eq_of_lt (by omega)]; omega
 ·rw [if_neg e] at h3
  rw [if_neg e, ak, h3]; simp; omega
def esz (x : Ent) : Nat := 4 + x.key.length + x.val.length
def fI (es : List Ent) : Nat := (es.map esz).sum
theorem ol {lv : Nat} {es : List Ent} (h : ∀ x ∈ es, jT lv x) : (dJ lv es).length = fI es := by
 induction es with
 | nil => rfl
 | cons x r ih =>
  unfold dJ at ih ⊢
  rw [List.flatMap_cons, List.length_append, ih (fun y hy => h y (List.mem_cons_of_mem _ hy)), qy (h x (List.mem_cons_self ..))]
  rfl
theorem vU {lv : Nat} {es : List Ent} (h : ∀ x ∈ es, jT lv x) : (aN lv es).length = 3 + fI es := by
 unfold aN
 rw [List.length_append, List.length_append, ak, ak, ol h]
 omega
theorem essz_ge (es : List Ent) : 4 * es.length <= fI es := by
 induction es with
 | nil => exact lr _
 | cons x r ih =>
  unfold fI at ih ⊢
  rw [List.map_cons, List.sum_cons, List.length_cons]
  unfold esz at ih ⊢
  omega
theorem iY (n root lv : Nat) (used : List UInt8) (h : used.length = 64) : (dM n root lv used).length = 88 := by
 unfold dM
 rw [List.length_append, List.length_append, List.length_append, List.length_append, ak, ak, ak, text_length, text_length, h]
 decide
theorem FX {lv : Nat} {es : List Ent} {k : Nat} {x : Ent} (hx : es[k]? = some x) : dJ lv es = dJ lv (es.take k) ++ (wC lv x ++ dJ lv (es.drop (k + 1))) := by
 obtain ⟨hk, e⟩ := List.getElem?_eq_some_iff.1 hx
 unfold dJ
 conv => lhs; rw [<- List.take_append_drop k es, List.drop_eq_getElem_cons hk, e]
 rw [List.flatMap_append, List.flatMap_cons]
def npl (lv : Nat) (es : List Ent) (k : Nat) : Nat := 3 + (dJ lv (es.take k)).length
theorem npl_all (lv : Nat) (es : List Ent) : npl lv es es.length = (aN lv es).length := by
 unfold npl aN
 rw [List.take_length, List.length_append, List.length_append, ak, ak]
 omega
theorem xG {lv : Nat} {es : List Ent} {k : Nat} {x : Ent} (hx : es[k]? = some x) (h : jT lv x) : npl lv es (k + 1) = npl lv es k + esz x := by
 unfold npl
 rw [List.take_add_one, hx]
 unfold dJ
 rw [List.flatMap_append, List.length_append]
 have := qy h
 simp only [Option.toList_some, List.flatMap_cons, List.flatMap_nil, List.append_nil]
 rw [this]
 unfold esz
 omega
theorem zg (lv : Nat) (es : List Ent) (h : lv < 256) : (Rd.mk (aN lv es) 0 0 0).number 1 = (⟨aN lv es, 1, 0, 0⟩, lv) := by
 have := Rd.number_app [] (num lv 1) (num es.length 2 ++ dJ lv es) 0 1 (by rw [ak]; decide)
 rw [ak, ik, Nat.mod_eq_of_lt (by omega)] at this
 exact this
theorem zh (lv : Nat) (es : List Ent) (h : es.length < 65536) : (Rd.mk (aN lv es) 1 0 0).number 2 = (⟨aN lv es, 3, 0, 0⟩, es.length) := by
 have := Rd.number_app (num lv 1) (num es.length 2) (dJ lv es) 0 2 (by rw [ak]; decide)
 rw [ak, ak, ik, Nat.mod_eq_of_lt (by omega)] at this
 exact this
theorem mW {lv : Nat} {es : List Ent} {k : Nat} {x : Ent} (hx : es[k]? = some x) : aN lv es = (num lv 1 ++ (num es.length 2 ++ dJ lv (es.take k))) ++ (wC lv x ++ dJ lv (es.drop (k + 1))) := by
 unfold aN
 conv => lhs; rw [FX hx]
 simp only [List.append_assoc]
theorem rT (lv : Nat) (es : List Ent) (k : Nat) : (num lv 1 ++ (num es.length 2 ++ dJ lv (es.take k))).length = npl lv es k := by
 unfold npl
 rw [List.length_append, List.length_append, ak, ak]
 omega
theorem xH {lv : Nat} {es : List Ent} {k : Nat} {x : Ent} (hx : es[k]? = some x) (h : jT lv x) : (Rd.mk (aN lv es) (npl lv es k) 0 0).bytes 40 = (⟨aN lv es, npl lv es k + 2 + x.key.length, 0, 0⟩, x.key) := by
 have h1 := h.key
 have := Rd.bytes_app (num lv 1 ++ (num es.length 2 ++ dJ lv (es.take k))) x.key ((if lv = 0 then text x.val else num x.page 2) ++ dJ lv (es.drop (k + 1))) 0 40 (by omega) (by omega)
 rw [rT] at this
 have e : aN lv es = (num lv 1 ++ (num es.length 2 ++ dJ lv (es.take k))) ++ (num x.key.length 2 ++ (x.key ++ ((if lv = 0 then text x.val else num x.page 2) ++ dJ lv (es.drop (k + 1))))) := by
  rw [mW hx]
  unfold wC
  rw [fQ x.key (by omega)]
  simp only [List.append_assoc]
 rw [e]
 exact this
theorem EM {es : List Ent} {k : Nat} {x : Ent} (hx : es[k]? = some x) (h : jT 0 x) : (Rd.mk (aN 0 es) (npl 0 es k + 2 + x.key.length) 0 0).bytes 400 = (⟨aN 0 es, npl 0 es (k + 1), 0, 0⟩, x.val) := by
 have h1 := h.key
 have h2 := h.val
 have := Rd.bytes_app ((num 0 1 ++ (num es.length 2 ++ dJ 0 (es.take k))) ++ (num x.key.length 2 ++ x.key)) x.val (dJ 0 (es.drop (k + 1))) 0 400 (by omega) (by omega)
 have hl : ((num 0 1 ++ (num es.length 2 ++ dJ 0 (es.take k))) ++ (num x.key.length 2 ++ x.key)).length = npl 0 es k + 2 + x.key.length := by
  rw [List.length_append, rT, List.length_append, ak]
  omega
 rw [hl] at this
 have e : aN 0 es = ((num 0 1 ++ (num es.length 2 ++ dJ 0 (es.take k))) ++ (num x.key.length 2 ++ x.key)) ++ (num x.val.length 2 ++ (x.val ++ dJ 0 (es.drop (k + 1)))) := by
  rw [mW hx]
  unfold wC
  rw [if_pos rfl, fQ x.key (by omega), fQ x.val (by omega)]
  simp only [List.append_assoc]
 have e2 : npl 0 es (k + 1) = npl 0 es k + 2 + x.key.length + 2 + x.val.length := by rw [xG hx h]; unfold esz; omega
 rw [e, e2]
 exact this
theorem BM {lv : Nat} {es : List Ent} {k : Nat} {x : Ent} (hx : es[k]? = some x) (h : jT lv x) (hlv : lv ≠ 0) : (Rd.mk (aN lv es) (npl lv es k + 2 + x.key.length) 0 0).number 2 = (⟨aN lv es, npl lv es (k + 1), 0, 0⟩, x.page) := by
 have h1 := h.key
 have h3 := h.no
 rw [if_neg hlv] at h3
 have h4 := h.page
 have := Rd.number_app ((num lv 1 ++ (num es.length 2 ++ dJ lv (es.take k))) ++ (num x.key.length 2 ++ x.key)) (num x.page 2) (dJ lv (es.drop (k + 1))) 0 2 (by rw [ak]; decide)
 have hl : ((num lv 1 ++ (num es.length 2 ++ dJ lv (es.take k))) ++ (num x.key.length 2 ++ x.key)).length = npl lv es k + 2 + x.key.length := by
  rw [List.length_append, rT, List.length_append, ak]
  omega
 rw [hl, ak, ik, Nat.mod_eq_of_lt (by omega)] at this
 have e : aN lv es = ((num lv 1 ++ (num es.length 2 ++ dJ lv (es.take k))) ++ (num x.key.length 2 ++ x.key)) ++ (num x.page 2 ++ dJ lv (es.drop (k + 1))) := by
  rw [mW hx]
  unfold wC
  rw [if_neg hlv, fQ x.key (by omega)]
  simp only [List.append_assoc]
 have e2 : npl lv es (k + 1) = npl lv es k + 2 + x.key.length + 2 := by rw [xG hx h]; unfold esz; rw [h3]; simp; omega
 rw [e, e2]
 exact this
theorem Fa (lv : Nat) (es : List Ent) : (Rd.mk (aN lv es) (npl lv es es.length) 0 0).fin = (0, 0) := by
 unfold Rd.fin
 rw [if_pos rfl, if_neg (by show ¬ npl lv es es.length < (aN lv es).length; rw [npl_all]; omega)]
theorem yQ (t : List UInt8) (h : t.length <= 1022) : (Rd.mk (aO t) 0 0 0).bytes 1024 = (⟨aO t, t.length + 2, 0, 0⟩, t) := by
 have := Rd.bytes_app [] t (zeros (1022 - t.length)) 0 1024 (by omega) (by omega)
 have e : aO t = [] ++ (num t.length 2 ++ (t ++ zeros (1022 - t.length))) := by
  unfold aO
  rw [fQ t (by omega)]
  simp only [List.nil_append, List.append_assoc]
 rw [e, show t.length + 2 = ([] : List UInt8).length + 2 + t.length by simp; omega]
 exact this
theorem iX : gu.length = 13 := rfl
theorem head_1 (n root lv : Nat) (used : List UInt8) : (Rd.mk (dM n root lv used) 0 0 0).bytes 13 = (⟨dM n root lv used, 15, 0, 0⟩, gu) := by
 have := Rd.bytes_app [] gu (num n 4 ++ (num root 2 ++ (num lv 1 ++ text used))) 0 13 (by decide) (by decide)
 have e : dM n root lv used = [] ++ (num gu.length 2 ++ (gu ++ (num n 4 ++ (num root 2 ++ (num lv 1 ++ text used))))) := by
  unfold dM
  rw [fQ gu (by decide)]
  simp only [List.nil_append, List.append_assoc]
 rw [e]
 exact this
theorem head_2 (n root lv : Nat) (used : List UInt8) (h : n < 4294967296) : (Rd.mk (dM n root lv used) 15 0 0).number 4 = (⟨dM n root lv used, 19, 0, 0⟩, n) := by
 have := Rd.number_app (text gu) (num n 4) (num root 2 ++ (num lv 1 ++ text used)) 0 4 (by rw [ak]; decide)
 rw [ak, ik, Nat.mod_eq_of_lt (by omega)] at this
 exact this
theorem head_3 (n root lv : Nat) (used : List UInt8) (h : root < 65536) : (Rd.mk (dM n root lv used) 19 0 0).number 2 = (⟨dM n root lv used, 21, 0, 0⟩, root) := by
 have := Rd.number_app (text gu ++ num n 4) (num root 2) (num lv 1 ++ text used) 0 2 (by rw [ak]; decide)
 rw [List.length_append, ak, ak, ik, Nat.mod_eq_of_lt (by omega), List.append_assoc] at this
 exact this
theorem head_4 (n root lv : Nat) (used : List UInt8) (h : lv < 256) : (Rd.mk (dM n root lv used) 21 0 0).number 1 = (⟨dM n root lv used, 22, 0, 0⟩, lv) := by
 have := Rd.number_app (text gu ++ (num n 4 ++ num root 2)) (num lv 1) (text used) 0 1 (by rw [ak]; decide)
 rw [List.length_append, List.length_append, ak, ak, ak, ik, Nat.mod_eq_of_lt (by omega)] at this
 simp only [List.append_assoc] at this
 exact this
theorem head_5 (n root lv : Nat) (used : List UInt8) (h : used.length = 64) : (Rd.mk (dM n root lv used) 22 0 0).bytes 64 = (⟨dM n root lv used, 88, 0, 0⟩, used) := by
 have := Rd.bytes_app (text gu ++ (num n 4 ++ (num root 2 ++ num lv 1))) used [] 0 64 (by omega) (by omega)
 rw [List.length_append, List.length_append, List.length_append, ak, ak, ak, h] at this
 have e : dM n root lv used = (text gu ++ (num n 4 ++ (num root 2 ++ num lv 1))) ++ (num 64 2 ++ (used ++ [])) := by
  unfold dM
  rw [fQ used (by omega), h]
  simp only [List.append_assoc, List.append_nil]
 rw [e]
 exact this
theorem FE (n root lv : Nat) (used : List UInt8) (h : used.length = 64) : (Rd.mk (dM n root lv used) 88 0 0).fin = (0, 0) := by
 unfold Rd.fin
 rw [if_pos rfl, if_neg (by show ¬ 88 < (dM n root lv used).length; rw [iY _ _ _ _ h]; omega)]
end S
namespace S
def ror (x n : UInt32) : UInt32 := (x <<< (32 - n)) ||| (x >>> n)
def ss0 (x : UInt32) : UInt32 := ror x 7 ^^^ ror x 18 ^^^ (x >>> 3)
def ss1 (x : UInt32) : UInt32 := ror x 17 ^^^ ror x 19 ^^^ (x >>> 10)
def bs0 (x : UInt32) : UInt32 := ror x 2 ^^^ ror x 13 ^^^ ror x 22
def bs1 (x : UInt32) : UInt32 := ror x 6 ^^^ ror x 11 ^^^ ror x 25
def ch (e f g : UInt32) : UInt32 := (e &&& f) ^^^ (~~~e &&& g)
def maj (a b c : UInt32) : UInt32 := (a &&& b) ^^^ (a &&& c) ^^^ (b &&& c)
end S
theorem oL (x : UInt32) : x.toNat < 4294967296 := x.toNat_lt
theorem bE (x y : UInt32) : bits .xor .u32 (x.toNat : Int) (y.toNat : Int) = ((x ^^^ y).toNat : Int) := by
 rw [u32_xor_nat _ _ (oL x) (oL y), UInt32.toNat_xor]
theorem gJ (x y : UInt32) : bits .and .u32 (x.toNat : Int) (y.toNat : Int) = ((x &&& y).toNat : Int) := by
 rw [u32_and_nat _ _ (oL x) (oL y), UInt32.toNat_and]
theorem bH (x y : UInt32) : bits .or .u32 (x.toNat : Int) (y.toNat : Int) = ((x ||| y).toNat : Int) := by
 rw [u32_or_nat _ _ (oL x) (oL y), UInt32.toNat_or]
theorem fE (x y : UInt32) : ((x.toNat : Int) + (y.toNat : Int)) % (4294967296 : Int) = ((x + y).toNat : Int) := by
 rw [UInt32.toNat_add]; omega
theorem vB (x : UInt32) : bits .xor .u32 IntKind.u32.max (x.toNat : Int) = ((~~~x).toNat : Int) := by
 have h : IntKind.u32.max = ((4294967295 : UInt32).toNat : Int) := by decide
 rw [h, bE]
 have : (4294967295 : UInt32) ^^^ x = ~~~x := by
  apply UInt32.toBitVec_inj.1
  simp only [UInt32.toBitVec_xor, UInt32.toBitVec_not]
  exact BitVec.allOnes_xor
 rw [this]
theorem ror_2 (x : UInt32) : bits .or .u32 ((x.toNat : Int) * (1073741824 : Int) % (4294967296 : Int)) ((x.toNat : Int) / (4 : Int)) = ((S.ror x 2).toNat : Int) := by
 have h1 : (x.toNat : Int) * (1073741824 : Int) % (4294967296 : Int) = (((x <<< (32 - 2 : UInt32)).toNat : Nat) : Int) := by
  rw [UInt32.toNat_shiftLeft, show (32 - 2 : UInt32).toNat % 32 = 30 from by decide, Nat.shiftLeft_eq]; simp
 have h2 : (x.toNat : Int) / (4 : Int) = (((x >>> (2 : UInt32)).toNat : Nat) : Int) := by
  rw [UInt32.toNat_shiftRight, show (2 : UInt32).toNat % 32 = 2 from by decide, Nat.shiftRight_eq_div_pow]; simp
 rw [h1, h2, bH]; rfl
theorem ror_6 (x : UInt32) : bits .or .u32 ((x.toNat : Int) * (67108864 : Int) % (4294967296 : Int)) ((x.toNat : Int) / (64 : Int)) = ((S.ror x 6).toNat : Int) := by
 have h1 : (x.toNat : Int) * (67108864 : Int) % (4294967296 : Int) = (((x <<< (32 - 6 : UInt32)).toNat : Nat) : Int) := by
  rw [UInt32.toNat_shiftLeft, show (32 - 6 : UInt32).toNat % 32 = 26 from by decide, Nat.shiftLeft_eq]; simp
 have h2 : (x.toNat : Int) / (64 : Int) = (((x >>> (6 : UInt32)).toNat : Nat) : Int) := by
  rw [UInt32.toNat_shiftRight, show (6 : UInt32).toNat % 32 = 6 from by decide, Nat.shiftRight_eq_div_pow]; simp
 rw [h1, h2, bH]; rfl
theorem ror_7 (x : UInt32) : bits .or .u32 ((x.toNat : Int) * (33554432 : Int) % (4294967296 : Int)) ((x.toNat : Int) / (128 : Int)) = ((S.ror x 7).toNat : Int) := by
 have h1 : (x.toNat : Int) * (33554432 : Int) % (4294967296 : Int) = (((x <<< (32 - 7 : UInt32)).toNat : Nat) : Int) := by
  rw [UInt32.toNat_shiftLeft, show (32 - 7 : UInt32).toNat % 32 = 25 from by decide, Nat.shiftLeft_eq]; simp
 have h2 : (x.toNat : Int) / (128 : Int) = (((x >>> (7 : UInt32)).toNat : Nat) : Int) := by
  rw [UInt32.toNat_shiftRight, show (7 : UInt32).toNat % 32 = 7 from by decide, Nat.shiftRight_eq_div_pow]; simp
 rw [h1, h2, bH]; rfl
theorem ror_11 (x : UInt32) : bits .or .u32 ((x.toNat : Int) * (2097152 : Int) % (4294967296 : Int)) ((x.toNat : Int) / (2048 : Int)) = ((S.ror x 11).toNat : Int) := by
 have h1 : (x.toNat : Int) * (2097152 : Int) % (4294967296 : Int) = (((x <<< (32 - 11 : UInt32)).toNat : Nat) : Int) := by
  rw [UInt32.toNat_shiftLeft, show (32 - 11 : UInt32).toNat % 32 = 21 from by decide, Nat.shiftLeft_eq]; simp
 have h2 : (x.toNat : Int) / (2048 : Int) = (((x >>> (11 : UInt32)).toNat : Nat) : Int) := by
  rw [UInt32.toNat_shiftRight, show (11 : UInt32).toNat % 32 = 11 from by decide, Nat.shiftRight_eq_div_pow]; simp
 rw [h1, h2, bH]; rfl
theorem ror_13 (x : UInt32) : bits .or .u32 ((x.toNat : Int) * (524288 : Int) % (4294967296 : Int)) ((x.toNat : Int) / (8192 : Int)) = ((S.ror x 13).toNat : Int) := by
 have h1 : (x.toNat : Int) * (524288 : Int) % (4294967296 : Int) = (((x <<< (32 - 13 : UInt32)).toNat : Nat) : Int) := by
  rw [UInt32.toNat_shiftLeft, show (32 - 13 : UInt32).toNat % 32 = 19 from by decide, Nat.shiftLeft_eq]; simp
 have h2 : (x.toNat : Int) / (8192 : Int) = (((x >>> (13 : UInt32)).toNat : Nat) : Int) := by
  rw [UInt32.toNat_shiftRight, show (13 : UInt32).toNat % 32 = 13 from by decide, Nat.shiftRight_eq_div_pow]; simp
 rw [h1, h2, bH]; rfl
theorem ror_17 (x : UInt32) : bits .or .u32 ((x.toNat : Int) * (32768 : Int) % (4294967296 : Int)) ((x.toNat : Int) / (131072 : Int)) = ((S.ror x 17).toNat : Int) := by
 have h1 : (x.toNat : Int) * (32768 : Int) % (4294967296 : Int) = (((x <<< (32 - 17 : UInt32)).toNat : Nat) : Int) := by
  rw [UInt32.toNat_shiftLeft, show (32 - 17 : UInt32).toNat % 32 = 15 from by decide, Nat.shiftLeft_eq]; simp
 have h2 : (x.toNat : Int) / (131072 : Int) = (((x >>> (17 : UInt32)).toNat : Nat) : Int) := by
  rw [UInt32.toNat_shiftRight, show (17 : UInt32).toNat % 32 = 17 from by decide, Nat.shiftRight_eq_div_pow]; simp
 rw [h1, h2, bH]; rfl
theorem ror_18 (x : UInt32) : bits .or .u32 ((x.toNat : Int) * (16384 : Int) % (4294967296 : Int)) ((x.toNat : Int) / (262144 : Int)) = ((S.ror x 18).toNat : Int) := by
 have h1 : (x.toNat : Int) * (16384 : Int) % (4294967296 : Int) = (((x <<< (32 - 18 : UInt32)).toNat : Nat) : Int) := by
  rw [UInt32.toNat_shiftLeft, show (32 - 18 : UInt32).toNat % 32 = 14 from by decide, Nat.shiftLeft_eq]; simp
 have h2 : (x.toNat : Int) / (262144 : Int) = (((x >>> (18 : UInt32)).toNat : Nat) : Int) := by
  rw [UInt32.toNat_shiftRight, show (18 : UInt32).toNat % 32 = 18 from by decide, Nat.shiftRight_eq_div_pow]; simp
 rw [h1, h2, bH]; rfl
theorem ror_19 (x : UInt32) : bits .or .u32 ((x.toNat : Int) * (8192 : Int) % (4294967296 : Int)) ((x.toNat : Int) / (524288 : Int)) = ((S.ror x 19).toNat : Int) := by
 have h1 : (x.toNat : Int) * (8192 : Int) % (4294967296 : Int) = (((x <<< (32 - 19 : UInt32)).toNat : Nat) : Int) := by
  rw [UInt32.toNat_shiftLeft, show (32 - 19 : UInt32).toNat % 32 = 13 from by decide, Nat.shiftLeft_eq]; simp
 have h2 : (x.toNat : Int) / (524288 : Int) = (((x >>> (19 : UInt32)).toNat : Nat) : Int) := by
  rw [UInt32.toNat_shiftRight, show (19 : UInt32).toNat % 32 = 19 from by decide, Nat.shiftRight_eq_div_pow]; simp
 rw [h1, h2, bH]; rfl
theorem ror_22 (x : UInt32) : bits .or .u32 ((x.toNat : Int) * (1024 : Int) % (4294967296 : Int)) ((x.toNat : Int) / (4194304 : Int)) = ((S.ror x 22).toNat : Int) := by
 have h1 : (x.toNat : Int) * (1024 : Int) % (4294967296 : Int) = (((x <<< (32 - 22 : UInt32)).toNat : Nat) : Int) := by
  rw [UInt32.toNat_shiftLeft, show (32 - 22 : UInt32).toNat % 32 = 10 from by decide, Nat.shiftLeft_eq]; simp
 have h2 : (x.toNat : Int) / (4194304 : Int) = (((x >>> (22 : UInt32)).toNat : Nat) : Int) := by
  rw [UInt32.toNat_shiftRight, show (22 : UInt32).toNat % 32 = 22 from by decide, Nat.shiftRight_eq_div_pow]; simp
 rw [h1, h2, bH]; rfl
theorem ror_25 (x : UInt32) : bits .or .u32 ((x.toNat : Int) * (128 : Int) % (4294967296 : Int)) ((x.toNat : Int) / (33554432 : Int)) = ((S.ror x 25).toNat : Int) := by
 have h1 : (x.toNat : Int) * (128 : Int) % (4294967296 : Int) = (((x <<< (32 - 25 : UInt32)).toNat : Nat) : Int) := by
  rw [UInt32.toNat_shiftLeft, show (32 - 25 : UInt32).toNat % 32 = 7 from by decide, Nat.shiftLeft_eq]; simp
 have h2 : (x.toNat : Int) / (33554432 : Int) = (((x >>> (25 : UInt32)).toNat : Nat) : Int) := by
  rw [UInt32.toNat_shiftRight, show (25 : UInt32).toNat % 32 = 25 from by decide, Nat.shiftRight_eq_div_pow]; simp
 rw [h1, h2, bH]; rfl
theorem shr_3 (x : UInt32) : (x.toNat : Int) / (8 : Int) = ((x >>> 3).toNat : Int) := by
 rw [UInt32.toNat_shiftRight, show (3 : UInt32).toNat % 32 = 3 from by decide, Nat.shiftRight_eq_div_pow]; simp
theorem shr_10 (x : UInt32) : (x.toNat : Int) / (1024 : Int) = ((x >>> 10).toNat : Int) := by
 rw [UInt32.toNat_shiftRight, show (10 : UInt32).toNat % 32 = 10 from by decide, Nat.shiftRight_eq_div_pow]; simp
theorem shr_8 (x : UInt32) : (x.toNat : Int) / (256 : Int) = ((x >>> 8).toNat : Int) := by
 rw [UInt32.toNat_shiftRight, show (8 : UInt32).toNat % 32 = 8 from by decide, Nat.shiftRight_eq_div_pow]; simp
theorem shr_16 (x : UInt32) : (x.toNat : Int) / (65536 : Int) = ((x >>> 16).toNat : Int) := by
 rw [UInt32.toNat_shiftRight, show (16 : UInt32).toNat % 32 = 16 from by decide, Nat.shiftRight_eq_div_pow]; simp
theorem shr_24 (x : UInt32) : (x.toNat : Int) / (16777216 : Int) = ((x >>> 24).toNat : Int) := by
 rw [UInt32.toNat_shiftRight, show (24 : UInt32).toNat % 32 = 24 from by decide, Nat.shiftRight_eq_div_pow]; simp
end Go.Proofs.YteealihknndclabGreatDoor
namespace Go.Proofs.YteealihknndclabGreatDoor
open Go.RowKit
theorem eF {a b : Int} (h : a = b) : Ending.returned (.int .u32 a) = .returned (.int .u32 b) := by rw [h]
theorem turn_2 (x : UInt32) (w : World) :
  Calls Tryz.prog 221 #[.int .u32 (x.toNat : Int), .int .i64 2] w fun e w' => e = .returned (.int .u32 ((S.ror x 2).toNat : Int)) /\ w' = w := by
 have h : bits .and .u64 (IntKind.u64.wrap (-2)) 31 = 30 := by decide
 go_enter Tryz.func221, Tryz.ntmps221
 go_wp2
 go_ret
 exact ⟨eF (ror_2 x), rfl⟩
theorem turn_6 (x : UInt32) (w : World) :
  Calls Tryz.prog 221 #[.int .u32 (x.toNat : Int), .int .i64 6] w fun e w' => e = .returned (.int .u32 ((S.ror x 6).toNat : Int)) /\ w' = w := by
 have h : bits .and .u64 (IntKind.u64.wrap (-6)) 31 = 26 := by decide
 go_enter Tryz.func221, Tryz.ntmps221
 go_wp2
 go_ret
 exact ⟨eF (ror_6 x), rfl⟩
theorem turn_7 (x : UInt32) (w : World) :
  Calls Tryz.prog 221 #[.int .u32 (x.toNat : Int), .int .i64 7] w fun e w' => e = .returned (.int .u32 ((S.ror x 7).toNat : Int)) /\ w' = w := by
 have h : bits .and .u64 (IntKind.u64.wrap (-7)) 31 = 25 := by decide
 go_enter Tryz.func221, Tryz.ntmps221
 go_wp2
 go_ret
 exact ⟨eF (ror_7 x), rfl⟩
theorem turn_11 (x : UInt32) (w : World) :
  Calls Tryz.prog 221 #[.int .u32 (x.toNat : Int), .int .i64 11] w fun e w' => e = .returned (.int .u32 ((S.ror x 11).toNat : Int)) /\ w' = w := by
 have h : bits .and .u64 (IntKind.u64.wrap (-11)) 31 = 21 := by decide
 go_enter Tryz.func221, Tryz.ntmps221
 go_wp2
 go_ret
 exact ⟨eF (ror_11 x), rfl⟩
theorem turn_13 (x : UInt32) (w : World) :
  Calls Tryz.prog 221 #[.int .u32 (x.toNat : Int), .int .i64 13] w fun e w' => e = .returned (.int .u32 ((S.ror x 13).toNat : Int)) /\ w' = w := by
 have h : bits .and .u64 (IntKind.u64.wrap (-13)) 31 = 19 := by decide
 go_enter Tryz.func221, Tryz.ntmps221
 go_wp2
 go_ret
 exact ⟨eF (ror_13 x), rfl⟩
theorem turn_17 (x : UInt32) (w : World) :
  Calls Tryz.prog 221 #[.int .u32 (x.toNat : Int), .int .i64 17] w fun e w' => e = .returned (.int .u32 ((S.ror x 17).toNat : Int)) /\ w' = w := by
 have h : bits .and .u64 (IntKind.u64.wrap (-17)) 31 = 15 := by decide
 go_enter Tryz.func221, Tryz.ntmps221
 go_wp2
 go_ret
 exact ⟨eF (ror_17 x), rfl⟩
theorem turn_18 (x : UInt32) (w : World) :
  Calls Tryz.prog 221 #[.int .u32 (x.toNat : Int), .int .i64 18] w fun e w' => e = .returned (.int .u32 ((S.ror x 18).toNat : Int)) /\ w' = w := by
 have h : bits .and .u64 (IntKind.u64.wrap (-18)) 31 = 14 := by decide
 go_enter Tryz.func221, Tryz.ntmps221
 go_wp2
 go_ret
 exact ⟨eF (ror_18 x), rfl⟩
theorem turn_19 (x : UInt32) (w : World) :
  Calls Tryz.prog 221 #[.int .u32 (x.toNat : Int), .int .i64 19] w fun e w' => e = .returned (.int .u32 ((S.ror x 19).toNat : Int)) /\ w' = w := by
 have h : bits .and .u64 (IntKind.u64.wrap (-19)) 31 = 13 := by decide
 go_enter Tryz.func221, Tryz.ntmps221
 go_wp2
 go_ret
 exact ⟨eF (ror_19 x), rfl⟩
theorem turn_22 (x : UInt32) (w : World) :
  Calls Tryz.prog 221 #[.int .u32 (x.toNat : Int), .int .i64 22] w fun e w' => e = .returned (.int .u32 ((S.ror x 22).toNat : Int)) /\ w' = w := by
 have h : bits .and .u64 (IntKind.u64.wrap (-22)) 31 = 10 := by decide
 go_enter Tryz.func221, Tryz.ntmps221
 go_wp2
 go_ret
 exact ⟨eF (ror_22 x), rfl⟩
theorem turn_25 (x : UInt32) (w : World) :
  Calls Tryz.prog 221 #[.int .u32 (x.toNat : Int), .int .i64 25] w fun e w' => e = .returned (.int .u32 ((S.ror x 25).toNat : Int)) /\ w' = w := by
 have h : bits .and .u64 (IntKind.u64.wrap (-25)) 31 = 7 := by decide
 go_enter Tryz.func221, Tryz.ntmps221
 go_wp2
 go_ret
 exact ⟨eF (ror_25 x), rfl⟩
set_option maxHeartbeats 400000 in
theorem ss0_any (x : UInt32) (w : World) :
  Calls Tryz.prog 220 #[.int .u32 (x.toNat : Int)] w fun e w' => e = .returned (.int .u32 ((S.ss0 x).toNat : Int)) /\ w' = w := by
 go_enter Tryz.func220, Tryz.ntmps220
 go_wp2_with (first | (go_at_call_of 221 (Value.int .i64 7); refine (turn_7 x _).mono ?_; rintro e w' ⟨rfl, rfl⟩) | (go_at_call_of 221 (Value.int .i64 18); refine (turn_18 x _).mono ?_; rintro e w' ⟨rfl, rfl⟩))
 go_ret
 exact ⟨eF (by rw [bE, shr_3, bE]; rfl), rfl⟩
set_option maxHeartbeats 400000 in
theorem ss1_any (x : UInt32) (w : World) :
  Calls Tryz.prog 219 #[.int .u32 (x.toNat : Int)] w fun e w' => e = .returned (.int .u32 ((S.ss1 x).toNat : Int)) /\ w' = w := by
 go_enter Tryz.func219, Tryz.ntmps219
 go_wp2_with (first | (go_at_call_of 221 (Value.int .i64 17); refine (turn_17 x _).mono ?_; rintro e w' ⟨rfl, rfl⟩) | (go_at_call_of 221 (Value.int .i64 19); refine (turn_19 x _).mono ?_; rintro e w' ⟨rfl, rfl⟩))
 go_ret
 exact ⟨eF (by rw [bE, shr_10, bE]; rfl), rfl⟩
set_option maxHeartbeats 400000 in
theorem bs0_any (x : UInt32) (w : World) :
  Calls Tryz.prog 214 #[.int .u32 (x.toNat : Int)] w fun e w' => e = .returned (.int .u32 ((S.bs0 x).toNat : Int)) /\ w' = w := by
 go_enter Tryz.func214, Tryz.ntmps214
 go_wp2_with (first | (go_at_call_of 221 (Value.int .i64 2); refine (turn_2 x _).mono ?_; rintro e w' ⟨rfl, rfl⟩) | (go_at_call_of 221 (Value.int .i64 13); refine (turn_13 x _).mono ?_; rintro e w' ⟨rfl, rfl⟩) | (go_at_call_of 221 (Value.int .i64 22); refine (turn_22 x _).mono ?_; rintro e w' ⟨rfl, rfl⟩))
 go_ret
 exact ⟨eF (by rw [bE, bE]; rfl), rfl⟩
set_option maxHeartbeats 400000 in
theorem bs1_any (x : UInt32) (w : World) :
  Calls Tryz.prog 212 #[.int .u32 (x.toNat : Int)] w fun e w' => e = .returned (.int .u32 ((S.bs1 x).toNat : Int)) /\ w' = w := by
 go_enter Tryz.func212, Tryz.ntmps212
 go_wp2_with (first | (go_at_call_of 221 (Value.int .i64 6); refine (turn_6 x _).mono ?_; rintro e w' ⟨rfl, rfl⟩) | (go_at_call_of 221 (Value.int .i64 11); refine (turn_11 x _).mono ?_; rintro e w' ⟨rfl, rfl⟩) | (go_at_call_of 221 (Value.int .i64 25); refine (turn_25 x _).mono ?_; rintro e w' ⟨rfl, rfl⟩))
 go_ret
 exact ⟨eF (by rw [bE, bE]; rfl), rfl⟩
theorem ch_any (x y z : UInt32) (w : World) :
  Calls Tryz.prog 213 #[.int .u32 (x.toNat : Int), .int .u32 (y.toNat : Int), .int .u32 (z.toNat : Int)] w fun e w' => e = .returned (.int .u32 ((S.ch x y z).toNat : Int)) /\ w' = w := by
 go_enter Tryz.func213, Tryz.ntmps213
 go_wp2
 go_ret
 exact ⟨eF (by rw [gJ, vB, gJ, bE]; rfl), rfl⟩
theorem maj_any (x y z : UInt32) (w : World) :
  Calls Tryz.prog 215 #[.int .u32 (x.toNat : Int), .int .u32 (y.toNat : Int), .int .u32 (z.toNat : Int)] w fun e w' => e = .returned (.int .u32 ((S.maj x y z).toNat : Int)) /\ w' = w := by
 go_enter Tryz.func215, Tryz.ntmps215
 go_wp2
 go_ret
 exact ⟨eF (by rw [gJ, gJ, gJ, bE, bE]; rfl), rfl⟩
end Go.Proofs.YteealihknndclabGreatDoor
namespace Go.Proofs.YteealihknndclabGreatDoor
open Go.RowKit
namespace S
def v32 (l : List UInt32) : Array Value := (l.map (fun x => Value.int .u32 (x.toNat : Int))).toArray
def word (bs : List UInt8) (t : Nat) : UInt32 := (bs.getD (4 * t) 0).toUInt32 <<< 24 ||| (bs.getD (4 * t + 1) 0).toUInt32 <<< 16 ||| (bs.getD (4 * t + 2) 0).toUInt32 <<< 8 ||| (bs.getD (4 * t + 3) 0).toUInt32
def fill (bs : List UInt8) : Nat -> List UInt32
 | 0 => List.replicate 64 0
 | k + 1 => (fill bs k).set k (word bs k)
def next (ws : List UInt32) (t : Nat) : UInt32 := ss1 (ws.getD (t - 2) 0) + ws.getD (t - 7) 0 + ss0 (ws.getD (t - 15) 0) + ws.getD (t - 16) 0
def ext (ws : List UInt32) : Nat -> List UInt32
 | 0 => ws
 | k + 1 => (ext ws k).set (16 + k) (next (ext ws k) (16 + k))
def sched (bs : List UInt8) : List UInt32 := ext (fill bs 16) 48
theorem jy (bs : List UInt8) (k : Nat) : (fill bs k).length = 64 := by
 induction k with
 | zero => rfl
 | succ k ih => simp [fill, ih]
theorem ny (ws : List UInt32) (k : Nat) : (ext ws k).length = ws.length := by
 induction k with
 | zero => rfl
 | succ k ih => simp [ext, ih]
theorem vI (bs : List UInt8) : (sched bs).length = 64 := by rw [sched, ny, jy]
theorem bu (l : List UInt32) : (v32 l).size = l.length := by simp [v32]
theorem iP (l : List UInt32) : (v32 l).all (·.oneCell') = true := by simp [v32, Value.oneCell']
end S
theorem aj {w : World} {g : Nat} {l : List UInt32} {t : TypeId} (h : w.heap[g]? = some (.cells (S.v32 l) t (0, 0))) (j : Nat) (hj : j < l.length) : w.cell? ⟨g, j, none⟩ = some (.int .u32 ((l.getD j 0).toNat : Int)) := by
 rw [cell_of_row w g j _ t _ h]; simp [S.v32, hj]
theorem iq {w : World} {g : Nat} {l : List UInt32} {t : TypeId} (h : w.heap[g]? = some (.cells (S.v32 l) t (0, 0))) (j : Nat) (x : UInt32) :
  (w.setCell ⟨g, j, none⟩ (.int .u32 (x.toNat : Int))).heap[g]? = some (.cells (S.v32 (l.set j x)) t (0, 0)) := by
 rw [heap_setCell_same w g j _ t _ h]
 congr 2
 apply Array.ext'
 simp [S.v32, List.map_set]
theorem qI (x : UInt8) : ((x.toNat : Int) % (4294967296 : Int)) = ((x.toUInt32).toNat : Int) := by
 have := x.toNat_lt; rw [UInt8.toNat_toUInt32]; omega
theorem shl_8 (x : UInt32) : (x.toNat : Int) * (256 : Int) % (4294967296 : Int) = ((x <<< 8).toNat : Int) := by
 rw [UInt32.toNat_shiftLeft, show (8 : UInt32).toNat % 32 = 8 from by decide, Nat.shiftLeft_eq]; simp
theorem shl_16 (x : UInt32) : (x.toNat : Int) * (65536 : Int) % (4294967296 : Int) = ((x <<< 16).toNat : Int) := by
 rw [UInt32.toNat_shiftLeft, show (16 : UInt32).toNat % 32 = 16 from by decide, Nat.shiftLeft_eq]; simp
theorem shl_24 (x : UInt32) : (x.toNat : Int) * (16777216 : Int) % (4294967296 : Int) = ((x <<< 24).toNat : Int) := by
 rw [UInt32.toNat_shiftLeft, show (24 : UInt32).toNat % 32 = 24 from by decide, Nat.shiftLeft_eq]; simp
theorem Bc (bs : List UInt8) (k : Nat) : bits .or .u32 (bits .or .u32 (bits .or .u32 (((bs[4 * k]?.getD 0).toNat : Int) % (4294967296 : Int) * (16777216 : Int) % (4294967296 : Int)) (((bs[4 * k + 1]?.getD 0).toNat : Int) % (4294967296 : Int) * (65536 : Int) % (4294967296 : Int))) (((bs[4 * k + 2]?.getD 0).toNat : Int) % (4294967296 : Int) * (256 : Int) % (4294967296 : Int))) (((bs[4 * k + 3]?.getD 0).toNat : Int) % (4294967296 : Int)) = ((S.word bs k).toNat : Int) := by
 rw [qI, qI, qI, qI, shl_24, shl_16, shl_8, bH, bH, bH]
 simp [S.word]
theorem BO (ws : List UInt32) (k : Nat) : (((((S.ss1 (ws[k - 2]?.getD 0)).toNat : Int) + ((ws[k - 7]?.getD 0).toNat : Int)) % (4294967296 : Int) + ((S.ss0 (ws[k - 15]?.getD 0)).toNat : Int)) % (4294967296 : Int) + ((ws[k - 16]?.getD 0).toNat : Int)) % (4294967296 : Int) = ((S.next ws k).toNat : Int) := by
 rw [fE, fE, fE]
 simp [S.next]
theorem Eh : (Tryz.prog.info? 295).map (·.size) = some 64 := by kernel_rfl
set_option maxHeartbeats 1600000 in
set_option maxRecDepth 100000 in
theorem vH (b off cap : Nat) (bs : List UInt8) (w : World) (hb : b < w.heap.size) (hc : ∀ j, j < 64 -> w.cell? ⟨b, off + j, none⟩ = some (.int .u8 ((bs.getD j 0).toNat : Int))) :
  Calls Tryz.prog 211 #[.slice (some ⟨b, off, none⟩) 64 cap] w fun e w' => e = .returned (.agg (S.v32 (S.sched bs))) /\ Below w.heap.size w w' := by
 go_enter Tryz.func211, Tryz.ntmps211
 go_wp2
 go_loopw [6] (fun i wr => ∃ k : Nat, k <= 16 /\ i = .int .i64 k /\ wr.heap[w.heap.size + 1]? = some (.cells (S.v32 (S.fill bs k)) 295 (0, 0)) /\ wr.heap[w.heap.size]? = some (.cells (S.v32 (List.replicate 64 0)) 295 (0, 0)) /\ Below w.heap.size w wr)
  (fun i _ => 16 - (intOf i).toNat)
 case atStart => exact ⟨0, by omega, rfl, heap_alloc2_new _ _ _, heap_alloc2_old _ _ _, (ba ..).alloc (by simp) _⟩
 case round =>
  obtain ⟨k, hk, rfl, hrow, hres, hnx⟩ := hrel
  have hlen := S.jy bs k
  by_cases hlt : k < 16
  ·have cw : wr.cell? ⟨w.heap.size + 1, k, none⟩ = some (.int .u32 (((S.fill bs k).getD k 0).toNat : Int)) := aj hrow k (by omega)
   have cf : wr.frozen? ⟨w.heap.size + 1, k, none⟩ = false := frozen_of_row _ _ _ _ _ hrow
   have c0 : wr.cell? ⟨b, off + (4 * k), none⟩ = some (.int .u8 ((bs.getD (4 * k) 0).toNat : Int)) := (hnx.cell (by exact hb)).trans (hc _ (by omega))
   have c1 : wr.cell? ⟨b, off + (4 * k + 1), none⟩ = some (.int .u8 ((bs.getD (4 * k + 1) 0).toNat : Int)) := (hnx.cell (by exact hb)).trans (hc _ (by omega))
   have c2 : wr.cell? ⟨b, off + (4 * k + 2), none⟩ = some (.int .u8 ((bs.getD (4 * k + 2) 0).toNat : Int)) := (hnx.cell (by exact hb)).trans (hc _ (by omega))
   have c3 : wr.cell? ⟨b, off + (4 * k + 3), none⟩ = some (.int .u8 ((bs.getD (4 * k + 3) 0).toNat : Int)) := (hnx.cell (by exact hb)).trans (hc _ (by omega))
   have R1 := iq hrow k (S.word bs k)
   have R2 : (wr.setCell ⟨w.heap.size + 1, k, none⟩ (.int .u32 ((S.word bs k).toNat : Int))).heap[w.heap.size]? = some (.cells (S.v32 (List.replicate 64 0)) 295 (0, 0)) := (heap_setCell_other _ _ _ _ (by simp)).trans hres
   have R3 : Below w.heap.size w (wr.setCell ⟨w.heap.size + 1, k, none⟩ (.int .u32 ((S.word bs k).toNat : Int))) := hnx.setCell (by simp) _
   have H1 := hide R1
   have H2 := hide R2
   have H3 := hide R3
   clear R1 R2 R3 hrow hres hnx hc hlen
   have q1 : (0 : Int) <= (k : Int) := by omega
   have q2 : (k : Int) < 64 := by omega
   have q3 : (k : Int) < 16 := by omega
   have hne : ¬ b = w.heap.size + 1 := by omega
   have hne2 : ¬ w.heap.size + 1 = b := by omega
   have e0 : IntKind.i64.wrap (4 * (k : Int)) = 4 * (k : Int) := by rw [IntKind.wrap_i64]; omega
   have f0 : (0 : Int) <= 4 * (k : Int) := by omega
   have g0 : 4 * (k : Int) < 64 := by omega
   have n0 : (4 * (k : Int)).toNat = 4 * k := by omega
   have e1 : IntKind.i64.wrap (4 * (k : Int) + 1) = 4 * (k : Int) + 1 := by rw [IntKind.wrap_i64]; omega
   have f1 : (0 : Int) <= 4 * (k : Int) + 1 := by omega
   have g1 : 4 * (k : Int) + 1 < 64 := by omega
   have n1 : (4 * (k : Int) + 1).toNat = 4 * k + 1 := by omega
   have e2 : IntKind.i64.wrap (4 * (k : Int) + 2) = 4 * (k : Int) + 2 := by rw [IntKind.wrap_i64]; omega
   have f2 : (0 : Int) <= 4 * (k : Int) + 2 := by omega
   have g2 : 4 * (k : Int) + 2 < 64 := by omega
   have n2 : (4 * (k : Int) + 2).toNat = 4 * k + 2 := by omega
   have e3 : IntKind.i64.wrap (4 * (k : Int) + 3) = 4 * (k : Int) + 3 := by rw [IntKind.wrap_i64]; omega
   have f3 : (0 : Int) <= 4 * (k : Int) + 3 := by omega
   have g3 : 4 * (k : Int) + 3 < 64 := by omega
   have n3 : (4 * (k : Int) + 3).toNat = 4 * k + 3 := by omega
   go_wp2
   go_region_held3 (fun w' => w'.cell? ⟨b, off + 4 * k, none⟩ = some (.int .u8 ((bs.getD (4 * k) 0).toNat : Int)) /\ w'.cell? ⟨b, off + (4 * k + 1), none⟩ = some (.int .u8 ((bs.getD (4 * k + 1) 0).toNat : Int)) /\ w'.cell? ⟨b, off + (4 * k + 2), none⟩ = some (.int .u8 ((bs.getD (4 * k + 2) 0).toNat : Int)) /\ w'.cell? ⟨b, off + (4 * k + 3), none⟩ = some (.int .u8 ((bs.getD (4 * k + 3) 0).toNat : Int))) (go_keep) (fail)
   go_wp2
   go_roundw
   case rel =>
    rw [Bc]
    exact ⟨k + 1, by omega, by go_num, H1.out, H2.out, H3.out.drew⟩
   case measure => simp [intOf]; omega
  ·obtain rfl : k = 16 := by omega
   rw [show ((16 : Nat) : Int) = 16 from rfl]
   go_wp2
   go_loopw [5] (fun i wr => ∃ k : Nat, 16 <= k /\ k <= 64 /\ i = .int .i64 k /\ wr.heap[w.heap.size + 1]? = some (.cells (S.v32 (S.ext (S.fill bs 16) (k - 16))) 295 (0, 0)) /\ wr.heap[w.heap.size]? = some (.cells (S.v32 (List.replicate 64 0)) 295 (0, 0)) /\ Below w.heap.size w wr)
    (fun i _ => 64 - (intOf i).toNat)
   case atStart => exact ⟨16, by omega, by omega, rfl, hrow, hres, hnx⟩
   case round =>
    obtain ⟨k, hk0, hk, rfl, hrow, hres, hnx⟩ := hrel
    by_cases hlt : k < 64
    ·have hlen : (S.ext (S.fill bs 16) (k - 16)).length = 64 := by rw [S.ny, S.jy]
     have hnext : S.ext (S.fill bs 16) (k + 1 - 16) = (S.ext (S.fill bs 16) (k - 16)).set k (S.next (S.ext (S.fill bs 16) (k - 16)) k) := by
      obtain ⟨j, rfl⟩ : ∃ j, k = 16 + j := ⟨k - 16, by omega⟩
      rw [show 16 + j + 1 - 16 = j + 1 from by omega, show 16 + j - 16 = j from by omega]; rfl
     generalize S.ext (S.fill bs 16) (k - 16) = ws at *
     have cw : wr.cell? ⟨w.heap.size + 1, k, none⟩ = some (.int .u32 ((ws.getD k 0).toNat : Int)) := aj hrow k (by omega)
     have cf : wr.frozen? ⟨w.heap.size + 1, k, none⟩ = false := frozen_of_row _ _ _ _ _ hrow
     have R1 := iq hrow k (S.next ws k)
     have R2 : (wr.setCell ⟨w.heap.size + 1, k, none⟩ (.int .u32 ((S.next ws k).toNat : Int))).heap[w.heap.size]? = some (.cells (S.v32 (List.replicate 64 0)) 295 (0, 0)) := (heap_setCell_other _ _ _ _ (by simp)).trans hres
     have R3 : Below w.heap.size w (wr.setCell ⟨w.heap.size + 1, k, none⟩ (.int .u32 ((S.next ws k).toNat : Int))) := hnx.setCell (by simp) _
     rw [<- hnext] at R1
     have H1 := hide R1
     have H2 := hide R2
     have H3 := hide R3
     have e2 : IntKind.i64.wrap ((k : Int) - 2) = (k : Int) - 2 := by rw [IntKind.wrap_i64]; omega
     have f2 : (0 : Int) <= (k : Int) - 2 := by omega
     have g2 : (k : Int) - 2 < 64 := by omega
     have p2 : (2 : Int) <= (k : Int) := by omega
     have r2 : (k : Int) < 66 := by omega
     have n2 : ((k : Int) - 2).toNat = k - 2 := by omega
     have m2 : ¬ k = k - 2 := by omega
     have o2 : ¬ k - 2 = k := by omega
     have c2 : wr.cell? ⟨w.heap.size + 1, k - 2, none⟩ = some (.int .u32 ((ws.getD (k - 2) 0).toNat : Int)) := aj hrow _ (by omega)
     have s2 : ∀ v, (wr.setCell ⟨w.heap.size + 1, k, none⟩ v).cell? ⟨w.heap.size + 1, k - 2, none⟩ = some (.int .u32 ((ws.getD (k - 2) 0).toNat : Int)) := fun v => (World.cell?_setCell_other wr _ _ v (by simp)).trans c2
     have e7 : IntKind.i64.wrap ((k : Int) - 7) = (k : Int) - 7 := by rw [IntKind.wrap_i64]; omega
     have f7 : (0 : Int) <= (k : Int) - 7 := by omega
     have g7 : (k : Int) - 7 < 64 := by omega
     have p7 : (7 : Int) <= (k : Int) := by omega
     have r7 : (k : Int) < 71 := by omega
     have n7 : ((k : Int) - 7).toNat = k - 7 := by omega
     have m7 : ¬ k = k - 7 := by omega
     have o7 : ¬ k - 7 = k := by omega
     have c7 : wr.cell? ⟨w.heap.size + 1, k - 7, none⟩ = some (.int .u32 ((ws.getD (k - 7) 0).toNat : Int)) := aj hrow _ (by omega)
     have s7 : ∀ v, (wr.setCell ⟨w.heap.size + 1, k, none⟩ v).cell? ⟨w.heap.size + 1, k - 7, none⟩ = some (.int .u32 ((ws.getD (k - 7) 0).toNat : Int)) := fun v => (World.cell?_setCell_other wr _ _ v (by simp)).trans c7
     have e15 : IntKind.i64.wrap ((k : Int) - 15) = (k : Int) - 15 := by rw [IntKind.wrap_i64]; omega
     have f15 : (0 : Int) <= (k : Int) - 15 := by omega
     have g15 : (k : Int) - 15 < 64 := by omega
     have p15 : (15 : Int) <= (k : Int) := by omega
     have r15 : (k : Int) < 79 := by omega
     have n15 : ((k : Int) - 15).toNat = k - 15 := by omega
     have m15 : ¬ k = k - 15 := by omega
     have o15 : ¬ k - 15 = k := by omega
     have c15 : wr.cell? ⟨w.heap.size + 1, k - 15, none⟩ = some (.int .u32 ((ws.getD (k - 15) 0).toNat : Int)) := aj hrow _ (by omega)
     have s15 : ∀ v, (wr.setCell ⟨w.heap.size + 1, k, none⟩ v).cell? ⟨w.heap.size + 1, k - 15, none⟩ = some (.int .u32 ((ws.getD (k - 15) 0).toNat : Int)) := fun v => (World.cell?_setCell_other wr _ _ v (by simp)).trans c15
     have e16 : IntKind.i64.wrap ((k : Int) - 16) = (k : Int) - 16 := by rw [IntKind.wrap_i64]; omega
     have f16 : (0 : Int) <= (k : Int) - 16 := by omega
     have g16 : (k : Int) - 16 < 64 := by omega
     have p16 : (16 : Int) <= (k : Int) := by omega
     have r16 : (k : Int) < 80 := by omega
     have n16 : ((k : Int) - 16).toNat = k - 16 := by omega
     have m16 : ¬ k = k - 16 := by omega
     have o16 : ¬ k - 16 = k := by omega
     have c16 : wr.cell? ⟨w.heap.size + 1, k - 16, none⟩ = some (.int .u32 ((ws.getD (k - 16) 0).toNat : Int)) := aj hrow _ (by omega)
     have s16 : ∀ v, (wr.setCell ⟨w.heap.size + 1, k, none⟩ v).cell? ⟨w.heap.size + 1, k - 16, none⟩ = some (.int .u32 ((ws.getD (k - 16) 0).toNat : Int)) := fun v => (World.cell?_setCell_other wr _ _ v (by simp)).trans c16
     clear R1 R2 R3 hrow hres hnx hc hlen hnext
     have q1 : (0 : Int) <= (k : Int) := by omega
     have q2 : (k : Int) < 64 := by omega
     go_wp2
     go_region_held3 (fun w' => w'.cell? ⟨w.heap.size + 1, k - 2, none⟩ = some (.int .u32 ((ws.getD (k - 2) 0).toNat : Int)) /\ w'.cell? ⟨w.heap.size + 1, k - 7, none⟩ = some (.int .u32 ((ws.getD (k - 7) 0).toNat : Int)) /\ w'.cell? ⟨w.heap.size + 1, k - 15, none⟩ = some (.int .u32 ((ws.getD (k - 15) 0).toNat : Int)) /\ w'.cell? ⟨w.heap.size + 1, k - 16, none⟩ = some (.int .u32 ((ws.getD (k - 16) 0).toNat : Int))) (go_keep) (first | (go_at_call 219; refine (ss1_any _ _).mono ?_; rintro e w' ⟨rfl, rfl⟩) | (go_at_call 220; refine (ss0_any _ _).mono ?_; rintro e w' ⟨rfl, rfl⟩))
     go_wp2
     go_roundw
     case rel =>
      rw [BO]
      exact ⟨k + 1, by omega, by omega, by go_num, H1.out, H2.out, H3.out.drew⟩
     case measure => simp [intOf]; omega
    ·obtain rfl : k = 64 := by omega
     have hl : (S.ext (S.fill bs 16) (64 - 16)).length = 64 := by rw [S.ny, S.jy]
     have hs : (Tryz.prog.info? 295).map (·.size) = some (S.v32 (S.ext (S.fill bs 16) (64 - 16))).size := by rw [S.bu, hl]; exact Eh
     have ho : (S.v32 (List.replicate 64 0)).size = (S.v32 (S.ext (S.fill bs 16) (64 - 16))).size := by rw [S.bu, S.bu, hl]; rfl
     go_wp2_with (first | refine wpList_load_row rfl 295 _ rfl (w.heap.size + 1) rfl 295 _ _ _ hrow Tryz.underlying295 rfl hs ?_ | refine wpList_store_row rfl 295 _ _ rfl w.heap.size _ rfl rfl 295 _ hres hs ho (S.iP _) ?_)
     refine bodyPost_ret (v := .agg (S.v32 (S.sched bs))) (results_cell_row (g := w.heap.size) (t := 295) (fr := (0, 0)) Tryz.results211 _ _ _ _ rfl (setRow_heap _ _ _ _ _ _ hres) Tryz.underlying295 rfl hs) rfl ⟨rfl, ?_⟩
     exact below_setRow hnx (lr _) _
end Go.Proofs.YteealihknndclabGreatDoor
namespace Go.Proofs.YteealihknndclabGreatDoor
open Go.RowKit
namespace S
structure R8 where
 a : UInt32
 b : UInt32
 c : UInt32
 d : UInt32
 e : UInt32
 f : UInt32
 g : UInt32
 h : UInt32
def K : List UInt32 := [1116352408, 1899447441, 3049323471, 3921009573, 961987163, 1508970993, 2453635748, 2870763221, 3624381080, 310598401, 607225278, 1426881987, 1925078388, 2162078206, 2614888103, 3248222580, 3835390401, 4022224774, 264347078, 604807628, 770255983, 1249150122, 1555081692, 1996064986, 2554220882, 2821834349, 2952996808, 3210313671, 3336571891, 3584528711, 113926993, 338241895, 666307205, 773529912, 1294757372, 1396182291, 1695183700, 1986661051, 2177026350, 2456956037, 2730485921, 2820302411, 3259730800, 3345764771, 3516065817, 3600352804, 4094571909, 275423344, 430227734, 506948616, 659060556, 883997877, 958139571, 1322822218, 1537002063, 1747873779, 1955562222, 2024104815, 2227730452, 2361852424, 2428436474, 2756734187, 3204031479, 3329325298]
def t1 (s : R8) (k w : UInt32) : UInt32 := s.h + bs1 s.e + ch s.e s.f s.g + k + w
def t2 (s : R8) : UInt32 := bs0 s.a + maj s.a s.b s.c
def round (s : R8) (k w : UInt32) : R8 := ⟨t1 s k w + t2 s, s.a, s.b, s.c, s.d + t1 s k w, s.e, s.f, s.g⟩
def rounds (ws : List UInt32) (s : R8) : Nat -> R8
 | 0 => s
 | k + 1 => round (rounds ws s k) (K.getD k 0) (ws.getD k 0)
def toR (l : List UInt32) : R8 := ⟨l.getD 0 0, l.getD 1 0, l.getD 2 0, l.getD 3 0, l.getD 4 0, l.getD 5 0, l.getD 6 0, l.getD 7 0⟩
def addR (l s : R8) : List UInt32 := [l.a + s.a, l.b + s.b, l.c + s.c, l.d + s.d, l.e + s.e, l.f + s.f, l.g + s.g, l.h + s.h]
def comp (st : List UInt32) (bs : List UInt8) : List UInt32 := addR (toR st) (rounds (sched bs) (toR st) 64)
end S
theorem gZ : (Tryz.prog.info? 257).map (·.size) = some 8 := by kernel_rfl
theorem kM {P : Program} {ops : Array Oper} {rest : List Oper} {o : Oper} {a : Act} {w : World} {Q : Exit -> Act -> World -> Prop} (hg : o.guard = none) (t : TypeId) (parts : Array (Nat × Operand)) (ho : o.op = .build t parts) (cs : Array Value)
  (hf : P.built t (parts.map fun (i, x) => (i, a.eval x)).toList = some cs) (h : wpList P ops Q rest (a.put o.dst (.agg cs)) w) : wpList P ops Q (o :: rest) a w :=
 wpList_build hg t parts ho (by rw [hf]; rfl) (by rw [hf]; exact h)
theorem t1_cast (r : S.R8) (k w : UInt32) : ((r.h.toNat : Int) + ((S.bs1 r.e).toNat : Int) + ((S.ch r.e r.f r.g).toNat : Int) + (k.toNat : Int) + (w.toNat : Int)) % (4294967296 : Int) = ((S.t1 r k w).toNat : Int) := by
 simp only [S.t1, UInt32.toNat_add]; omega
theorem t2_cast (r : S.R8) : (((S.bs0 r.a).toNat : Int) + ((S.maj r.a r.b r.c).toNat : Int)) % (4294967296 : Int) = ((S.t2 r).toNat : Int) := by
 simp only [S.t2, UInt32.toNat_add]; omega
set_option maxHeartbeats 800000 in
set_option maxRecDepth 100000 in
theorem wE (st : List UInt32) (hst : st.length = 8) (b off cap : Nat) (bs : List UInt8) (w : World) (hb : b < w.heap.size) (hK : ∀ j, j < 64 -> w.cell? ⟨1, j, none⟩ = some (.int .u32 ((S.K.getD j 0).toNat : Int)))
  (hc : ∀ j, j < 64 -> w.cell? ⟨b, off + j, none⟩ = some (.int .u8 ((bs.getD j 0).toNat : Int))) :
  Calls Tryz.prog 205 #[.agg (S.v32 st), .slice (some ⟨b, off, none⟩) 64 cap] w fun e w' => e = .returned (.agg (S.v32 (S.comp st bs))) /\ Below w.heap.size w w' := by
 go_enter Tryz.func205, Tryz.ntmps205
 go_wp2_with fail
 refine (vH b off cap bs _ (by simp; omega) (fun j hj => by
  rw [World.cell?_alloc_past _ _ _ (by simp; omega), World.cell?_alloc_past _ _ _ hb]; exact hc j hj)).mono ?_
 rintro e w1 ⟨rfl, hb1⟩
 have hl := S.vI bs
 have hz1 : w.heap.size + 2 <= w1.heap.size := by have := hb1.size; simp at this; omega
 have a0 : w1.heap[w.heap.size]? = some (.cells (S.v32 st) 257 (0, 0)) := (hb1.block _ (by simp; omega)).trans (heap_alloc2_old _ _ _)
 have a1 : w1.heap[w.heap.size + 1]? = some (.cells (S.v32 (List.replicate 8 0)) 257 (0, 0)) := (hb1.block _ (by simp)).trans (heap_alloc2_new _ _ _)
 have hnx1 : Below w.heap.size w w1 := ((ba ..).alloc (by simp) _).trans (hb1.mono (by simp; omega))
 have hs : (Tryz.prog.info? 295).map (·.size) = some (S.v32 (S.sched bs)).size := by rw [S.bu, hl]; exact Eh
 clear hb1
 go_wp2_with (refine wpList_store_row rfl 295 _ _ rfl w1.heap.size _ rfl rfl 295 _ (heap_alloc_new _ _) hs (by rw [S.bu, hl]; rfl) (S.iP _) ?_)
 simp only [Act.put]
 generalize hW2 : (w1.alloc _).setRow w1.heap.size (S.v32 (S.sched bs)) = W2
 have r2 : W2.heap[w1.heap.size]? = some (.cells (S.v32 (S.sched bs)) 295 (0, 0)) := by rw [<- hW2]; exact setRow_heap _ _ _ _ _ _ (heap_alloc_new _ _)
 have r0 : W2.heap[w.heap.size]? = some (.cells (S.v32 st) 257 (0, 0)) := by rw [<- hW2]; exact (setRow_other _ _ _ _ (by omega)).trans ((heap_alloc_old _ _ (by omega)).trans a0)
 have r1 : W2.heap[w.heap.size + 1]? = some (.cells (S.v32 (List.replicate 8 0)) 257 (0, 0)) := by rw [<- hW2]; exact (setRow_other _ _ _ _ (by omega)).trans ((heap_alloc_old _ _ (by omega)).trans a1)
 have hnx : Below w.heap.size w W2 := by rw [<- hW2]; exact below_setRow (hnx1.alloc (by omega) _) (by omega) _
 clear hW2 a0 a1 hnx1 hs
 generalize w1.heap.size = g1 at *
 clear w1
 obtain ⟨s, hs0⟩ : ∃ s : S.R8, s = S.toR st := ⟨_, rfl⟩
 have c0 : W2.cell? ⟨w.heap.size, 0, none⟩ = some (.int .u32 (s.a.toNat : Int)) := by rw [hs0]; exact aj r0 0 (by omega)
 have c1 : W2.cell? ⟨w.heap.size, 1, none⟩ = some (.int .u32 (s.b.toNat : Int)) := by rw [hs0]; exact aj r0 1 (by omega)
 have c2 : W2.cell? ⟨w.heap.size, 2, none⟩ = some (.int .u32 (s.c.toNat : Int)) := by rw [hs0]; exact aj r0 2 (by omega)
 have c3 : W2.cell? ⟨w.heap.size, 3, none⟩ = some (.int .u32 (s.d.toNat : Int)) := by rw [hs0]; exact aj r0 3 (by omega)
 have c4 : W2.cell? ⟨w.heap.size, 4, none⟩ = some (.int .u32 (s.e.toNat : Int)) := by rw [hs0]; exact aj r0 4 (by omega)
 have c5 : W2.cell? ⟨w.heap.size, 5, none⟩ = some (.int .u32 (s.f.toNat : Int)) := by rw [hs0]; exact aj r0 5 (by omega)
 have c6 : W2.cell? ⟨w.heap.size, 6, none⟩ = some (.int .u32 (s.g.toNat : Int)) := by rw [hs0]; exact aj r0 6 (by omega)
 have c7 : W2.cell? ⟨w.heap.size, 7, none⟩ = some (.int .u32 (s.h.toNat : Int)) := by rw [hs0]; exact aj r0 7 (by omega)
 have HS := hide hs0
 have H0 := hide r0
 have H1 := hide r1
 have H2 := hide r2
 have H3 := hide hnx
 have H4 := hide hK
 have h0 : 1 < w.heap.size := block_lt_of_cell (hK 0 (by omega))
 clear r0 r1 r2 hnx hc hK hs0
 go_quiet (fail)
 go_wp2
 go_quiet (fail)
 go_wp2
 clear c0 c1 c2 c3 c4 c5 c6 c7
 go_loopw [6, 7, 8, 9, 10, 11, 12, 13, 35] (fun xa xb xc xd xe xf xg xh i wr => ∃ k : Nat, k <= 64 /\ i = .int .i64 k /\ (∃ r : S.R8, r = S.rounds (S.sched bs) s k /\ xa = .int .u32 (r.a.toNat : Int) /\ xb = .int .u32 (r.b.toNat : Int) /\ xc = .int .u32 (r.c.toNat : Int) /\ xd = .int .u32 (r.d.toNat : Int) /\ xe = .int .u32 (r.e.toNat : Int) /\ xf = .int .u32 (r.f.toNat : Int) /\ xg = .int .u32 (r.g.toNat : Int) /\ xh = .int .u32 (r.h.toNat : Int)) /\ wr.heap = W2.heap /\ Below w.heap.size w wr)
  (fun _ _ _ _ _ _ _ _ i _ => 64 - (intOf i).toNat)
 case atStart => exact ⟨0, by omega, rfl, ⟨s, rfl, rfl, rfl, rfl, rfl, rfl, rfl, rfl, rfl⟩, rfl, (below_drewN (below_drewN H3.out _) _)⟩
 case round =>
  obtain ⟨k, hk, rfl, ⟨r, hr, rfl, rfl, rfl, rfl, rfl, rfl, rfl, rfl⟩, hheap, hnx⟩ := hrel
  by_cases hlt : k < 64
  ·obtain ⟨kt, hkt⟩ : ∃ kt : UInt32, kt = S.K.getD k 0 := ⟨_, rfl⟩
   obtain ⟨wt, hwt⟩ : ∃ wt : UInt32, wt = (S.sched bs).getD k 0 := ⟨_, rfl⟩
   have cK : wr.cell? ⟨1, k, none⟩ = some (.int .u32 (kt.toNat : Int)) := by rw [hkt]; exact (hnx.cell (by exact h0)).trans (H4.out k hlt)
   have r2 : wr.heap[g1]? = some (.cells (S.v32 (S.sched bs)) 295 (0, 0)) := by rw [hheap]; exact H2.out
   have cW : wr.cell? ⟨g1, k, none⟩ = some (.int .u32 (wt.toNat : Int)) := by rw [hwt]; exact aj r2 k (by omega)
   have hr1 : S.rounds (S.sched bs) s (k + 1) = S.round r kt wt := by rw [hr, hkt, hwt]; rfl
   have G0 := hide hr1
   have G1 := hide hheap
   have G2 := hide hnx
   have q1 : (0 : Int) <= (k : Int) := by omega
   have q2 : (k : Int) < 64 := by omega
   clear hr hkt hwt r2 hr1 hheap hnx
   go_wp2
   go_quiet ((first | (go_at_call 212; exact Calls.quiet_of_same (bs1_any _ _)) | (go_at_call 213; exact Calls.quiet_of_same (ch_any _ _ _ _))))
   go_wp2_with (first | (go_at_call 214; refine (bs0_any _ _).mono ?_; rintro e w' ⟨rfl, rfl⟩) | (go_at_call 215; refine (maj_any _ _ _ _).mono ?_; rintro e w' ⟨rfl, rfl⟩))
   go_roundw
   case rel =>
    rw [t1_cast, t2_cast, fE, fE]
    exact ⟨k + 1, by omega, by go_num, ⟨_, G0.out.symm, rfl, rfl, rfl, rfl, rfl, rfl, rfl, rfl⟩, G1.out, below_drewN G2.out _⟩
   case measure => simp [intOf]; omega
  ·obtain rfl : k = 64 := by omega
   have r0 : wr.heap[w.heap.size]? = some (.cells (S.v32 st) 257 (0, 0)) := by rw [hheap]; exact H0.out
   have r1 : wr.heap[w.heap.size + 1]? = some (.cells (S.v32 (List.replicate 8 0)) 257 (0, 0)) := by rw [hheap]; exact H1.out
   have hs0 := HS.out
   have c0 : wr.cell? ⟨w.heap.size, 0, none⟩ = some (.int .u32 (s.a.toNat : Int)) := by rw [hs0]; exact aj r0 0 (by omega)
   have c1 : wr.cell? ⟨w.heap.size, 1, none⟩ = some (.int .u32 (s.b.toNat : Int)) := by rw [hs0]; exact aj r0 1 (by omega)
   have c2 : wr.cell? ⟨w.heap.size, 2, none⟩ = some (.int .u32 (s.c.toNat : Int)) := by rw [hs0]; exact aj r0 2 (by omega)
   have c3 : wr.cell? ⟨w.heap.size, 3, none⟩ = some (.int .u32 (s.d.toNat : Int)) := by rw [hs0]; exact aj r0 3 (by omega)
   have c4 : wr.cell? ⟨w.heap.size, 4, none⟩ = some (.int .u32 (s.e.toNat : Int)) := by rw [hs0]; exact aj r0 4 (by omega)
   have c5 : wr.cell? ⟨w.heap.size, 5, none⟩ = some (.int .u32 (s.f.toNat : Int)) := by rw [hs0]; exact aj r0 5 (by omega)
   have c6 : wr.cell? ⟨w.heap.size, 6, none⟩ = some (.int .u32 (s.g.toNat : Int)) := by rw [hs0]; exact aj r0 6 (by omega)
   have c7 : wr.cell? ⟨w.heap.size, 7, none⟩ = some (.int .u32 (s.h.toNat : Int)) := by rw [hs0]; exact aj r0 7 (by omega)
   have hcomp : S.comp st bs = S.addR s r := by rw [hr, hs0]; rfl
   have G1 := hide r1
   have G2 := hide hnx
   have G3 := hide hcomp
   clear r0 r1 hs0 hheap hnx hcomp hr
   have b1 : (#[.int .u32 (((s.a.toNat : Int) + (r.a.toNat : Int)) % (4294967296 : Int)), .int .u32 (((s.b.toNat : Int) + (r.b.toNat : Int)) % (4294967296 : Int)), .int .u32 (((s.c.toNat : Int) + (r.c.toNat : Int)) % (4294967296 : Int)), .int .u32 (((s.d.toNat : Int) + (r.d.toNat : Int)) % (4294967296 : Int)), .int .u32 (((s.e.toNat : Int) + (r.e.toNat : Int)) % (4294967296 : Int)), .int .u32 (((s.f.toNat : Int) + (r.f.toNat : Int)) % (4294967296 : Int)), .int .u32 (((s.g.toNat : Int) + (r.g.toNat : Int)) % (4294967296 : Int)), .int .u32 (((s.h.toNat : Int) + (r.h.toNat : Int)) % (4294967296 : Int))] : Array Value).all (·.oneCell') = true := by simp [Value.oneCell']
   have b2 : (S.v32 (List.replicate 8 0)).size = (#[.int .u32 (((s.a.toNat : Int) + (r.a.toNat : Int)) % (4294967296 : Int)), .int .u32 (((s.b.toNat : Int) + (r.b.toNat : Int)) % (4294967296 : Int)), .int .u32 (((s.c.toNat : Int) + (r.c.toNat : Int)) % (4294967296 : Int)), .int .u32 (((s.d.toNat : Int) + (r.d.toNat : Int)) % (4294967296 : Int)), .int .u32 (((s.e.toNat : Int) + (r.e.toNat : Int)) % (4294967296 : Int)), .int .u32 (((s.f.toNat : Int) + (r.f.toNat : Int)) % (4294967296 : Int)), .int .u32 (((s.g.toNat : Int) + (r.g.toNat : Int)) % (4294967296 : Int)), .int .u32 (((s.h.toNat : Int) + (r.h.toNat : Int)) % (4294967296 : Int))] : Array Value).size := by simp [S.v32]
   have b3 : (Tryz.prog.info? 257).map (·.size) = some (#[.int .u32 (((s.a.toNat : Int) + (r.a.toNat : Int)) % (4294967296 : Int)), .int .u32 (((s.b.toNat : Int) + (r.b.toNat : Int)) % (4294967296 : Int)), .int .u32 (((s.c.toNat : Int) + (r.c.toNat : Int)) % (4294967296 : Int)), .int .u32 (((s.d.toNat : Int) + (r.d.toNat : Int)) % (4294967296 : Int)), .int .u32 (((s.e.toNat : Int) + (r.e.toNat : Int)) % (4294967296 : Int)), .int .u32 (((s.f.toNat : Int) + (r.f.toNat : Int)) % (4294967296 : Int)), .int .u32 (((s.g.toNat : Int) + (r.g.toNat : Int)) % (4294967296 : Int)), .int .u32 (((s.h.toNat : Int) + (r.h.toNat : Int)) % (4294967296 : Int))] : Array Value).size := by rw [gZ]; rfl
   have B1 := hide b1
   have B2 := hide b2
   have B3 := hide b3
   clear b1 b2 b3
   go_wp2_with (first | refine kM rfl 257 _ rfl (#[.int .u32 (((s.a.toNat : Int) + (r.a.toNat : Int)) % (4294967296 : Int)), .int .u32 (((s.b.toNat : Int) + (r.b.toNat : Int)) % (4294967296 : Int)), .int .u32 (((s.c.toNat : Int) + (r.c.toNat : Int)) % (4294967296 : Int)), .int .u32 (((s.d.toNat : Int) + (r.d.toNat : Int)) % (4294967296 : Int)), .int .u32 (((s.e.toNat : Int) + (r.e.toNat : Int)) % (4294967296 : Int)), .int .u32 (((s.f.toNat : Int) + (r.f.toNat : Int)) % (4294967296 : Int)), .int .u32 (((s.g.toNat : Int) + (r.g.toNat : Int)) % (4294967296 : Int)), .int .u32 (((s.h.toNat : Int) + (r.h.toNat : Int)) % (4294967296 : Int))]) (by kernel_rfl) ?_ | refine wpList_store_row rfl 257 _ _ rfl (w.heap.size + 1) (#[.int .u32 (((s.a.toNat : Int) + (r.a.toNat : Int)) % (4294967296 : Int)), .int .u32 (((s.b.toNat : Int) + (r.b.toNat : Int)) % (4294967296 : Int)), .int .u32 (((s.c.toNat : Int) + (r.c.toNat : Int)) % (4294967296 : Int)), .int .u32 (((s.d.toNat : Int) + (r.d.toNat : Int)) % (4294967296 : Int)), .int .u32 (((s.e.toNat : Int) + (r.e.toNat : Int)) % (4294967296 : Int)), .int .u32 (((s.f.toNat : Int) + (r.f.toNat : Int)) % (4294967296 : Int)), .int .u32 (((s.g.toNat : Int) + (r.g.toNat : Int)) % (4294967296 : Int)), .int .u32 (((s.h.toNat : Int) + (r.h.toNat : Int)) % (4294967296 : Int))]) rfl rfl 257 _ G1.out B3.out B2.out B1.out ?_)
   refine bodyPost_ret (v := .agg (#[.int .u32 (((s.a.toNat : Int) + (r.a.toNat : Int)) % (4294967296 : Int)), .int .u32 (((s.b.toNat : Int) + (r.b.toNat : Int)) % (4294967296 : Int)), .int .u32 (((s.c.toNat : Int) + (r.c.toNat : Int)) % (4294967296 : Int)), .int .u32 (((s.d.toNat : Int) + (r.d.toNat : Int)) % (4294967296 : Int)), .int .u32 (((s.e.toNat : Int) + (r.e.toNat : Int)) % (4294967296 : Int)), .int .u32 (((s.f.toNat : Int) + (r.f.toNat : Int)) % (4294967296 : Int)), .int .u32 (((s.g.toNat : Int) + (r.g.toNat : Int)) % (4294967296 : Int)), .int .u32 (((s.h.toNat : Int) + (r.h.toNat : Int)) % (4294967296 : Int))])) (results_cell_row (g := w.heap.size + 1) (t := 257) (fr := (0, 0)) Tryz.results205 _ _ _ _ rfl (setRow_heap _ _ _ _ _ _ G1.out) Tryz.underlying257 rfl B3.out) rfl ⟨?_, below_setRow G2.out (by omega) _⟩
   rw [G3.out]
   simp only [fE]
   rfl
end Go.Proofs.YteealihknndclabGreatDoor
