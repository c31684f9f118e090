/- Numbers of 32 bits: what each operation comes to, as plain functions of integers, and the sums that tie the ways of reckoning them together. -/
import Derived.RowKit
import Derived.Laws.BitsAllLaws
namespace Go.Proofs.YteefmjhemhlapaaGreat
open Go.RowKit
def doK (op b:Int):Bool:=decide (3≤op∧op≤14) && !((op == 6 || op == 7) && b == 0)
def doV (op a b:Int):Int:=
  if op=3 then (a+b) % 4294967296
  else if op=4 then (a - b) % 4294967296
  else if op=5 then (a * b) % 4294967296
  else if op=6 then (if b=0 then 0 else (wrap32 a).tdiv (wrap32 b) % 4294967296)
  else if op=7 then (if b=0 then 0 else (wrap32 a).tmod (wrap32 b) % 4294967296)
  else if op=8 then ((a.toNat &&& b.toNat:Nat):Int)
  else if op=9 then ((a.toNat ||| b.toNat:Nat):Int)
  else if op=10 then ((a.toNat ^^^ b.toNat:Nat):Int)
  else if op=11 then a * 2 ^ (b % 32).toNat % 4294967296
  else if op=12 then a / 2 ^ (b % 32).toNat
  else if op=13 then (if wrap32 a < wrap32 b then 1 else 0)
  else if op=14 then (if a=b then 1 else 0)
  else 0
theorem wrap32_mod (n:Int):wrap32 n % 4294967296=n % 4294967296:=by unfold wrap32;omega
theorem wrap32_lo (a:Int) (h0:0≤a) (h1:a < 2147483648):wrap32 a=a:=by unfold wrap32;omega
theorem wrap32_hi (a:Int) (h0:2147483648≤a) (h1:a < 4294967296):wrap32 a=a - 4294967296:=by unfold wrap32;omega
theorem wrap32_zero (b:Int) (h0:0≤b) (h1:b < 4294967296):wrap32 b=0↔b=0:=by unfold wrap32;omega
theorem wrap64_wrap32 (n:Int):wrap64 (wrap32 n)=wrap32 n:=by unfold wrap64 wrap32;omega
theorem rem_eq (a b:Int):(a - wrap32 ((wrap32 a).tdiv (wrap32 b)) % 4294967296 * b % 4294967296) % 4294967296=(wrap32 a).tmod (wrap32 b) % 4294967296:=by
  have e:(wrap32 a).tmod (wrap32 b)=wrap32 a - (wrap32 a).tdiv (wrap32 b) * wrap32 b:=by
    have:=Int.tmod_add_mul_tdiv (wrap32 a) (wrap32 b);rw [Int.mul_comm] at this;omega
  rw [e,wrap32_mod]
  generalize (wrap32 a).tdiv (wrap32 b)=q
  have h1:=wrap32_mod a
  have h2:=wrap32_mod b
  generalize wrap32 a=A at *
  generalize wrap32 b=B at *
  have m1:q % 4294967296 * b % 4294967296=q * B % 4294967296:=by
    rw [Int.mul_emod q B,h2,← Int.mul_emod,Int.mul_emod (q % 4294967296) b,Int.emod_emod_of_dvd q (Int.dvd_refl _),← Int.mul_emod]
  rw [m1]
  rw [Int.sub_emod a,Int.emod_emod_of_dvd _ (Int.dvd_refl _),← h1,← Int.sub_emod]
theorem ite_bd {c:Prop} [Decidable c] {x y:Int} (h1:0≤x∧x < 4294967296) (h2:0≤y∧y < 4294967296):0≤(if c then x else y)∧(if c then x else y) < 4294967296:=by
  by_cases h:c
  · rw [if_pos h];exact h1
  · rw [if_neg h];exact h2
theorem mod_bd (x:Int):0≤x % 4294967296∧x % 4294967296 < 4294967296:=⟨Int.emod_nonneg _ (by decide),Int.emod_lt_of_pos _ (by decide)⟩
theorem doV_bd (op a b:Int) (h0:0≤a) (h1:a < 4294967296) (h2:0≤b) (h3:b < 4294967296):0≤doV op a b∧doV op a b < 4294967296:=by
  have ha:a.toNat < 2 ^ 32:=by omega
  have hb:b.toNat < 2 ^ 32:=by omega
  have e1:a.toNat &&& b.toNat < 4294967296:=Nat.and_lt_two_pow (n:=32) a.toNat hb
  have e2:a.toNat ||| b.toNat < 4294967296:=Nat.or_lt_two_pow (n:=32) ha hb
  have e3:a.toNat ^^^ b.toNat < 4294967296:=Nat.xor_lt_two_pow (n:=32) ha hb
  have e4:0≤a / 2 ^ (b % 32).toNat∧a / 2 ^ (b % 32).toNat < 4294967296:=by
    have hp:(0:Int) < 2 ^ (b % 32).toNat:=Int.pow_pos (by decide)
    exact ⟨Int.ediv_nonneg h0 (Int.le_of_lt hp),Int.lt_of_le_of_lt (Int.ediv_le_self _ h0) h1⟩
  unfold doV
  refine ite_bd (mod_bd _) (ite_bd (mod_bd _) (ite_bd (mod_bd _) (ite_bd (ite_bd ⟨by decide,by decide⟩ (mod_bd _)) (ite_bd (ite_bd ⟨by decide,by decide⟩ (mod_bd _)) (ite_bd ⟨by omega,by omega⟩ (ite_bd ⟨by omega,by omega⟩ (ite_bd ⟨by omega,by omega⟩ (ite_bd (mod_bd _) (ite_bd e4 (ite_bd (ite_bd ⟨by decide,by decide⟩ ⟨by decide,by decide⟩) (ite_bd (ite_bd ⟨by decide,by decide⟩ ⟨by decide,by decide⟩) ⟨by decide,by decide⟩)))))))))))
theorem doV_none (op a b:Int) (h:op < 3∨14 < op):doV op a b=0:=by
  unfold doV
  repeat rw [if_neg (by omega)]
theorem doK_none (op b:Int) (h:op < 3∨14 < op):doK op b=false:=by
  have:decide (3≤op∧op≤14)=false:=decide_eq_false (by omega)
  simp only [doK,this,Bool.false_and]
theorem doV_e3 (a b:Int):doV 3 a b=(a+b) % 4294967296:=by unfold doV;repeat (first | rw [if_neg (by decide)] | rw [if_pos rfl])
theorem doV_e4 (a b:Int):doV 4 a b=(a - b) % 4294967296:=by unfold doV;repeat (first | rw [if_neg (by decide)] | rw [if_pos rfl])
theorem doV_e5 (a b:Int):doV 5 a b=(a * b) % 4294967296:=by unfold doV;repeat (first | rw [if_neg (by decide)] | rw [if_pos rfl])
theorem doV_e8 (a b:Int):doV 8 a b=((a.toNat &&& b.toNat:Nat):Int):=by unfold doV;repeat (first | rw [if_neg (by decide)] | rw [if_pos rfl])
theorem doV_e9 (a b:Int):doV 9 a b=((a.toNat ||| b.toNat:Nat):Int):=by unfold doV;repeat (first | rw [if_neg (by decide)] | rw [if_pos rfl])
theorem doV_e10 (a b:Int):doV 10 a b=((a.toNat ^^^ b.toNat:Nat):Int):=by unfold doV;repeat (first | rw [if_neg (by decide)] | rw [if_pos rfl])
theorem doV_e11 (a b:Int):doV 11 a b=a * 2 ^ (b % 32).toNat % 4294967296:=by unfold doV;repeat (first | rw [if_neg (by decide)] | rw [if_pos rfl])
theorem doV_e12 (a b:Int):doV 12 a b=a / 2 ^ (b % 32).toNat:=by unfold doV;repeat (first | rw [if_neg (by decide)] | rw [if_pos rfl])
theorem doV_e6 (a b:Int) (hb:b≠0):doV 6 a b=(wrap32 a).tdiv (wrap32 b) % 4294967296:=by unfold doV;(repeat (first | rw [if_neg (by decide)] | rw [if_pos rfl]));rw [if_neg hb]
theorem doV_e7 (a b:Int) (hb:b≠0):doV 7 a b=(wrap32 a).tmod (wrap32 b) % 4294967296:=by unfold doV;(repeat (first | rw [if_neg (by decide)] | rw [if_pos rfl]));rw [if_neg hb]
theorem doV_e13 (a b:Int):doV 13 a b=if wrap32 a < wrap32 b then 1 else 0:=by unfold doV;repeat (first | rw [if_neg (by decide)] | rw [if_pos rfl])
theorem doV_e14 (a b:Int):doV 14 a b=if a=b then 1 else 0:=by unfold doV;repeat (first | rw [if_neg (by decide)] | rw [if_pos rfl])
theorem doV_e6z (a:Int):doV 6 a 0=0:=by unfold doV;repeat (first | rw [if_neg (by decide)] | rw [if_pos rfl])
theorem doV_e7z (a:Int):doV 7 a 0=0:=by unfold doV;repeat (first | rw [if_neg (by decide)] | rw [if_pos rfl])
theorem doK_e (op b:Int) (h:op=3∨op=4∨op=5∨op=8∨op=9∨op=10∨op=11∨op=12∨op=13∨op=14):doK op b=true:=by
  rcases h with rfl | rfl | rfl | rfl | rfl | rfl | rfl | rfl | rfl | rfl <;> rfl
theorem doK_e6 (op b:Int) (h:op=6∨op=7) (hb:b≠0):doK op b=true:=by
  rcases h with rfl | rfl <;> simp [doK,hb]
theorem doK_e6z (op:Int) (h:op=6∨op=7):doK op 0=false:=by
  rcases h with rfl | rfl <;> rfl
end Go.Proofs.YteefmjhemhlapaaGreat
