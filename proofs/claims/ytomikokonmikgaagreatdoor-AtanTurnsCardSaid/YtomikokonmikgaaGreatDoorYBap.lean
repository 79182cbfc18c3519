/-
 Contracts that the proof rests on.
-/
import Derived.Laws.Bits64b
import Derived.Laws.Externs
import Derived.Lib.Mul64
import Derived.Lib.TrailingZeros
import Derived.Test.YtomikokonmikgaaGreatDoorYBan
namespace Go.Proofs.YtomikokonmikgaaGreatDoor
open Go.RowKit
set_option linter.unusedVariables false
set_option maxRecDepth 100000
def tz8:List Int:=[0,1,56,2,57,49,28,3,61,58,42,50,38,29,17,4,62,47,59,36,45,43,51,22,53,39,33,30,24,18,12,5,63,55,48,27,60,41,37,16,46,35,44,21,52,32,23,11,54,26,40,15,34,20,31,10,25,14,19,9,13,8,7,6]
def Tb (w:World):Prop:=∀i,i < 64->w.cell? ⟨0,i,none⟩=some (.int .u8 (tz8.getD i 0))
section
variable {w w':World}
theorem Tb.lt (h:Tb w):0 < w.heap.size:=World.block_lt_of_cell? w _ (h 0 (by decide))
theorem Tb.keep (h:Tb w)(hk:w'.heap[0]?=w.heap[0]?):Tb w':=fun i hi=>by
 rw[<-h i hi];simp only[World.cell?,hk]
theorem Tb.below (h:Tb w)(hb:Below w.heap.size w w'):Tb w':=h.keep (hb.block _ h.lt)
abbrev Tb.b:= @Tb.below
theorem Tb.drew (h:Tb w):Tb w.drew:=h
theorem Tb.ne{g:Nat}{cs:Array Value}{T:TypeId}(h:Tb w)(X:Bo w g cs T)(hn:cs.all no8=true):0≠g:=fun e=>by
 have h0:=h 0 (by decide);subst e;rw[X.cell]at h0;rw[Array.all_eq_true]at hn;obtain⟨hlt,he⟩:=Array.getElem?_eq_some_iff.1 h0
 have:=hn 0 hlt
 rw[he]at this
 cases this
theorem Tb.stn{g:Nat}{old new:Array Value}{T:TypeId}(h:Tb w)(S:StN w w' g old new T)(hn:old.all no8=true):Tb w':=h.keep (S.2.2.1 _ (h.ne S.1 hn))
theorem Tb.off{g:Nat}{old new:Array Value}{R:TypeId}(h:Tb w)(X:Bo w g old R)(hn:old.all no8=true)(O:Jo.Off g new R w w'):Tb w':=h.keep (O.block _ h.lt (h.ne X hn))
end
theorem tz8_at:∀k:Nat,k < 64->(2^k*285870213051353865%18446744073709551616/288230376151711744) < 64/\tz8.getD (2^k*285870213051353865%18446744073709551616/288230376151711744) 0=(k:Int):=by decide +kernel
theorem tz64_key (x a:Nat)(hx:x < 18446744073709551616)(hx0:x≠0)(hlow:x &&& (18446744073709551616-x)=a):
  IntKind.u64.wrap (bits BinOp.and IntKind.u64 (x:Int) (IntKind.u64.wrap (-(x:Int)))*285870213051353865) /288230376151711744=((a*285870213051353865%18446744073709551616/288230376151711744:Nat):Int):=by
 have e1:IntKind.u64.wrap (-(x:Int))=((18446744073709551616-x:Nat):Int):=by rw[IntKind.wrap_u64];omega
 rw[e1,bits_and_u64_nat x _ hx (by omega),hlow,IntKind.wrap_u64]
 omega
set_option maxHeartbeats 1000000 in
theorem tz64_core (x k idx:Nat)(w:World)(hx0:((x:Int)==0)=false)
  (key:IntKind.u64.wrap (bits BinOp.and IntKind.u64 (x:Int) (IntKind.u64.wrap (-(x:Int)))*285870213051353865) /288230376151711744=(idx:Int))
  (hi:idx < 64) (hk:k < 64) (hcell:w.cell? ⟨0,idx,none⟩=some (.int .u8 (k:Int))):
  Calls Tryz.prog 254 #[.int .u64 (x:Int)] w fun e w'=>e= .returned (.int .i64 (k:Int))/\w'=w:=by
 go_enter Tryz.func254,Tryz.ntmps254
 go_wp2_with (simp only[key])
 go_ret
 exact⟨rfl,rfl⟩
theorem aTz{w:World}{x:Nat}{X r:Int}(hT:Tb w)(h0:x≠0)(hx:x < 18446744073709551616)(hX:(x:Int)=X)(hr:((Lib.ctz 64 x:Nat):Int)=r):Calls Tryz.prog 254 #[.int .u64 X] w (PI w r):=by
 subst hX;subst hr;obtain⟨hlow,hk⟩:=Lib.lowest_bit 64 x h0 hx;obtain⟨hi,htab⟩:=tz8_at _ hk;have hcell:=hT _ hi;rw[htab]at hcell;refine(tz64_core x _ _ w (by simp;omega) (tz64_key x _ hx h0 hlow) hi hk hcell).mono ?_;rintro e w' ⟨rfl,rfl⟩;exact⟨rfl,Below.refl _ _⟩
theorem ctz_dvd{x n:Nat}(h0:x≠0)(hx:x < 18446744073709551616):n<=Lib.ctz 64 x↔x%2^n=0:=by
 obtain⟨m,hm,hk⟩:=Lib.ctzFrom_spec 64 x (by omega) hx
 have e:Lib.ctz 64 x=Lib.ctzFrom 64 x:=by simp[Lib.ctz,h0]
 rw[e]
 revert hm hk
 generalize Lib.ctzFrom 64 x=k
 intro hm hk
 constructor
 ·intro h
  rw[hm,show 2^k=2^n*2^(k-n) by rw[<-Nat.pow_add];congr 1;omega,Nat.mul_assoc]
  exact Nat.mul_mod_right _ _
 ·intro h
  rcases Nat.lt_or_ge k n with c | c
  ·exfalso
   obtain⟨q,hq⟩:=Nat.dvd_of_mod_eq_zero h
   rw[hm,show 2^n=2^k*(2*2^(n-k-1)) by rw[<-Nat.pow_succ',<-Nat.pow_add];congr 1;omega,Nat.mul_assoc]at hq
   have:=Nat.eq_of_mul_eq_mul_left (Nat.pow_pos (by decide)) hq
   rw[Nat.mul_assoc]at this
   omega
  ·exact c
def subEntry:Array Value->Sem Value:=fun args=>do
 let (x,y,b) <-Extern.MathBitsCarry.three "Sub64" args
 pure (Extern.MathBitsCarry.pair ((x+Extern.MathBitsCarry.m64-y-b)%Extern.MathBitsCarry.m64) (if x < y+b then 1 else 0))
theorem run_subEntry{P:Program}(x y b:Nat)(hb:b<=1)(w:World):
  (subEntry #[.int .u64 x,.int .u64 y,.int .u64 b]).run P w=
   .ok (.tuple #[.int .u64 (((x+18446744073709551616-y-b)%18446744073709551616:Nat):Int),.int .u64 ((if x < y+b then 1 else 0:Nat):Int)]) w:=by
 have:b=0\/b=1:=by omega
 rcases this with rfl | rfl <;> rfl
theorem aAdd64{X Y C S D:Int}(w:World)(hX:0<=X)(hY:0<=Y)(hC:0<=C)(hC1:C<=1)(hS:(X+Y+C)%18446744073709551616=S)(hD:(X+Y+C) /18446744073709551616=D):
  (callFunc 230 #[.int .u64 X,.int .u64 Y,.int .u64 C]).run Tryz.prog w= .ok (.value (.tuple #[.int .u64 S,.int .u64 D])) w:=by
 rw[run_callFunc_extern Tryz.func230 (by kernel_rfl) (by kernel_rfl) (by kernel_rfl) (e:=add64Entry) (by kernel_rfl),run_add64 X Y C hX hY hC hC1,hS,hD]
 rfl
theorem aSub64{X Y C S D:Int}(w:World)(hX:0<=X)(hX1:LQ X)(hY:0<=Y)(hY1:LQ Y)(hC:0<=C)(hC1:C<=1)(hS:(X-Y-C)%18446744073709551616=S)(hD:(if X < Y+C then 1 else 0)=D):
  (callFunc 231 #[.int .u64 X,.int .u64 Y,.int .u64 C]).run Tryz.prog w= .ok (.value (.tuple #[.int .u64 S,.int .u64 D])) w:=by
 obtain⟨x,rfl⟩:=Int.eq_ofNat_of_zero_le hX;obtain⟨y,rfl⟩:=Int.eq_ofNat_of_zero_le hY;obtain⟨c,rfl⟩:=Int.eq_ofNat_of_zero_le hC
 have e1:(((x+18446744073709551616-y-c)%18446744073709551616:Nat):Int)=S:=by omega
 have e2:((if x < y+c then 1 else 0:Nat):Int)=D:=by
  rw[<-hD]
  by_cases q:x < y+c
  ·rw[if_pos q,if_pos (by omega)];rfl
  ·rw[if_neg q,if_neg (by omega)];rfl
 rw[run_callFunc_extern Tryz.func231 (by kernel_rfl) (by kernel_rfl) (by kernel_rfl) (e:=subEntry) (by kernel_rfl),run_subEntry x y c (by omega),e1,e2]
 rfl
namespace M6
theorem maskN (a:Nat)(ha:a < 18446744073709551616):bits .and .u64 (a:Int) 4294967295=((a%4294967296:Nat):Int):=by
 have h:=bits_and_u64_nat a 4294967295 ha (by omega)
 have e:a &&& 4294967295=a%4294967296:=Nat.and_two_pow_sub_one_eq_mod a 32
 rw[e]at h;exact h
theorem divN (a:Nat):(a:Int) /4294967296=((a/4294967296:Nat):Int):=by omega
theorem mulN (a b:Nat):(a:Int)*(b:Int)=((a*b:Nat):Int):=(Int.natCast_mul a b).symm
theorem addN (a b:Nat):(a:Int)+(b:Int)=((a+b:Nat):Int):=(Int.natCast_add a b).symm
theorem wrapN (a:Nat)(ha:a < 18446744073709551616):IntKind.u64.wrap (a:Int)=(a:Int):=by rw[IntKind.wrap_u64];omega
theorem wrapM (a:Nat):IntKind.u64.wrap (a:Int)=((a%18446744073709551616:Nat):Int):=by rw[IntKind.wrap_u64];omega
end M6
set_option maxHeartbeats 1000000 in
theorem aMul64_nat (x y:Nat)(hx:x < 18446744073709551616)(hy:y < 18446744073709551616)(w:World):
  Calls Tryz.prog 235 #[.int .u64 (x:Int),.int .u64 (y:Int)] w fun e w'=>e= .returned (.tuple #[.int .u64 ((x*y/18446744073709551616:Nat):Int),.int .u64 ((x*y%18446744073709551616:Nat):Int)])/\w'=w:=by
 obtain⟨bd,bt,bw,hhi⟩:=Lib.mul64_hi x y hx hy;have ba:=Lib.half_mul_le (a:=x/4294967296) (b:=y/4294967296) (by omega) (by omega);have bb:=Lib.half_mul_le (a:=x/4294967296) (b:=y%4294967296) (by omega) (by omega);have bc:=Lib.half_mul_le (a:=x%4294967296) (b:=y/4294967296) (by omega) (by omega)
 have ba':x/4294967296*(y/4294967296) < 18446744073709551616:=by omega
 have bb':x/4294967296*(y%4294967296) < 18446744073709551616:=by omega
 have bc':x%4294967296*(y/4294967296) < 18446744073709551616:=by omega
 have bh1:x/4294967296*(y/4294967296)+(x/4294967296*(y%4294967296)+x%4294967296*(y%4294967296) /4294967296) /4294967296 < 18446744073709551616:=by omega
 have bh:x/4294967296*(y/4294967296)+(x/4294967296*(y%4294967296)+x%4294967296*(y%4294967296) /4294967296) /4294967296+((x/4294967296*(y%4294967296)+x%4294967296*(y%4294967296) /4294967296)%4294967296+x%4294967296*(y/4294967296)) /4294967296 < 18446744073709551616:=by omega
 go_enter Tryz.func235,Tryz.ntmps235
 go_wp2;simp only[M6.maskN x hx,M6.maskN y hy,M6.divN,M6.mulN,M6.addN,M6.wrapN _ bd,M6.wrapN _ bb',M6.wrapN _ bt,M6.maskN _ bt,M6.wrapN _ bc',M6.wrapN _ bw,M6.wrapN _ ba',M6.wrapN _ bh1,M6.wrapN _ bh,M6.wrapM (x*y)];rw[hhi]
 go_ret2
 exact⟨rfl,rfl⟩
theorem aMul64{X Y H L:Int}(w:World)(hX:0<=X)(hX1:LQ X)(hY:0<=Y)(hY1:LQ Y)(hH:X*Y/18446744073709551616=H)(hL:X*Y%18446744073709551616=L):
  Calls Tryz.prog 235 #[.int .u64 X,.int .u64 Y] w fun e w'=>e= .returned (.tuple #[.int .u64 H,.int .u64 L])/\Below w.heap.size w w':=by
 obtain⟨x,rfl⟩:=Int.eq_ofNat_of_zero_le hX;obtain⟨y,rfl⟩:=Int.eq_ofNat_of_zero_le hY;refine(aMul64_nat x y (by omega) (by omega) w).mono ?_;rintro e w' ⟨rfl,rfl⟩;refine⟨?_,Below.refl _ _⟩
 have e0:((x:Int))*(y:Int)=((x*y:Nat):Int):=(Int.natCast_mul x y).symm
 have e1:((x*y/18446744073709551616:Nat):Int)=H:=by
  rw[<-hH]
  show _=((x:Int))*(y:Int) /18446744073709551616
  rw[e0];generalize x*y=z
  omega
 have e2:((x*y%18446744073709551616:Nat):Int)=L:=by
  rw[<-hL]
  show _=((x:Int))*(y:Int)%18446744073709551616
  rw[e0];generalize x*y=z
  omega
 rw[e1,e2]
end Go.Proofs.YtomikokonmikgaaGreatDoor
namespace Go.Proofs.YtomikokonmikgaaGreatDoor
set_option maxHeartbeats 8000000
open Go.RowKit
set_option linter.unusedVariables false
theorem Tb.s{w w':World}{g:Nat}{old new:Array Value}{T:TypeId}(h:Tb w)(S:StN w w' g old new T)(hn:old.all no8=true:=by simp[no8]):Tb w':=h.stn S hn
set_option linter.unusedSimpArgs false
set_option maxRecDepth 100000
def PRa (w:World)(s:Bool)(S:Nat)(F:Int)(e:Ending)(w':World):Prop:=∃T K X,e= .returned (.agg #[.bool s,.int .u64 T,.int .u64 K,.int .i64 X])/\Ra S F T K X/\Below w.heap.size w w'
theorem or_high{h l n b:Nat}(hn:n+b=64)(hh:h*2^n < 18446744073709551616)(hl:l < 18446744073709551616):bits BinOp.or IntKind.u64 ((h*2^n:Nat):Int) ((l/2^b:Nat):Int)=((h*2^n+l/2^b:Nat):Int):=by
 have hq:l/2^b < 2^n:=by
  rw[Nat.div_lt_iff_lt_mul (Nat.pow_pos (by decide)),<-Nat.pow_add,hn];exact hl
 have hq2:l/2^b < 18446744073709551616:=Nat.lt_of_le_of_lt (Nat.div_le_self _ _) hl
 rw[u64_or_nat _ _ hh hq2,<-Nat.shiftLeft_eq,Nat.shiftLeft_add_eq_or_of_lt hq]
theorem tonat_sub{a:Int}{b:Nat}(h:64-(b:Int)=a)(hb:b<=64):a.toNat=64-b/\(64-a).toNat=b:=by omega
theorem raised_low{w:World}{s:Bool}{l:Nat}{L e:Int}(hl:l < 18446744073709551616)(hL:(l:Int)=L)(e1: -4000000<=e)(e2:e<=4000000):Calls Tryz.prog 255 #[.agg #[.bool s,.int .u64 0,.int .u64 L,.int .i64 e]] w (PRa w s l (e-64)):=by
 have HRA:=ie (ra_low (e:=e) hl);have hb:=blen_mono_le (n:=l) (k:=64) hl;obtain⟨a,ha⟩:∃a,64-(blen l:Int)=a:=⟨_,rfl⟩;obtain⟨T,hT⟩:∃T,((l*2^(64-blen l):Nat):Int)=T:=⟨_,rfl⟩
 have HS:Hid (L*2^a.toNat=T):=ie (by
  rw[<-hT,<-hL,(tonat_sub ha hb).1]
  push_cast
  rfl)
 rw[hT,ha]at HRA;have t0:=HRA.out.1;have t1:=HRA.out.2.1
 have a0:0<=a:=by omega
 have a1:a<=64:=by omega
 have HA:=ie ha;have HL:=ie hL
 have HW:=ie (show IntKind.u64.wrap T=T from IntWalk.u64_in _ (by omega))
 have HO:Hid (bits BinOp.or IntKind.u64 T 0=T):=ie (by
  obtain⟨k,rfl⟩:=Int.eq_ofNat_of_zero_le t0
  have:=u64_or_nat k 0 (by omega) (by decide)
  rw[Nat.or_zero]at this;exact this)
 obtain⟨f,hf⟩:∃f,e-64=f:=⟨_,rfl⟩;obtain⟨X,hX⟩:∃X,f-a=X:=⟨_,rfl⟩;rw[hf,hX]at HRA;rw[hf]
 have HF:=ie (show IntKind.i64.wrap (e-64)=f by rw[hf];exact IntWalk.i64_in _ (by omega))
 have HX:=ie (show IntKind.i64.wrap (f-a)=X by rw[hX];exact IntWalk.i64_in _ (by omega))
 have HSB:=ie (show IntKind.i64.wrap (64-a)=64-a from IntWalk.i64_in _ (by omega))
 clear ha hL hT hf hX hb
 go_enter Tryz.func255,Tryz.ntmps255
 go_upto_region 1 with (fail)
 generalize hW1:(w.alloc _).alloc _=w1 at *;obtain⟨X1,XR,HB⟩:=Bo.en2 hW1;clear hW1;have xX1:=X1.cell;have zX10:=X1.frozen
 go_upto_region 3 with (fail)
 clear xX1 zX10
 have SX:StN w1 (World.setCell w1 ⟨w.heap.size,1,none⟩ (.int .u64 L)) _ _ #[.bool s,.int .u64 L,.int .u64 L,.int .i64 e] _:=StN.at4 X1 1 (.int .u64 L)
 replace XR:=XR.s SX;replace HB:=Hqs HB SX (by omega);replace X1:=SX.box;clear SX;generalize World.setCell w1 ⟨w.heap.size,1,none⟩ (.int .u64 L)=w2 at *
 have SX:StN w2 (World.setCell w2 ⟨w.heap.size,2,none⟩ (.int .u64 0)) _ _ #[.bool s,.int .u64 L,.int .u64 0,.int .i64 e] _:=StN.at4 X1 2 (.int .u64 0)
 replace XR:=XR.s SX;replace HB:=Hqs HB SX (by omega);replace X1:=SX.box;clear SX;generalize World.setCell w2 ⟨w.heap.size,2,none⟩ (.int .u64 0)=w3 at *;have xX1:=X1.cell;have zX10:=X1.frozen;have hf:=HF.out
 go_upto_region 4 with (fail)
 clear hf;clear xX1 zX10
 have SX:StN w3 (World.setCell w3 ⟨w.heap.size,3,none⟩ (.int .i64 f)) _ _ #[.bool s,.int .u64 L,.int .u64 0,.int .i64 f] _:=StN.at4 X1 3 (.int .i64 f)
 replace XR:=XR.s SX;replace HB:=Hqs HB SX (by omega);replace X1:=SX.box;clear SX;generalize World.setCell w3 ⟨w.heap.size,3,none⟩ (.int .i64 f)=w4 at *;have xX1:=X1.cell
 go_wp2_with fail
 refine(lead64_any _ hl HL.out HA.out).mono ?_;rintro ee w5 ⟨rfl,B⟩;clear xX1;replace X1:=X1.b B;replace XR:=XR.b B;replace HB:=Hqb HB B;clear B
 go_upto_region 5 with (fail)
 refine jk [0,1,2,3,4,5,6,7,8,9,10] [some 18,some 19,some 20,some 21,some 22,some 23,some 24,some 25,some 26,some 27,some 28,none] [[],[0],[],[1,2],[],[4],[],[6],[5,7],[3,8],[],[]] 12 1 [Jo.qp w.heap.size 1,Jo.Fact.eq (.int .u64 L),Jo.qi a,Jo.Fact.eq (.int .u64 T),Jo.qp w.heap.size 2,Jo.Fact.eq (.int .u64 0),Jo.qi a,Jo.Fact.eq (.int .i64 (64-a)),Jo.Fact.eq (.int .u64 0),Jo.Fact.eq (.int .u64 T),Jo.qp w.heap.size 1,Jo.Fact.any] ?_ ?_
 ·refine jm ?_ ?_;rotate_left
  refine jm ?_ ?_
  ·rintro wj hJ _ rfl K hK;simp only[Jo.z]at hK|-;have xX11:=(X1.b hJ).a 1 (.int .u64 L) rfl;go_simp;exact hK.out _ _ rfl (br _ _)
  refine jm ?_ ?_;rotate_left
  refine jm ?_ ?_
  ·rintro wj hJ _ rfl _ rfl K hK;simp only[Jo.z]at hK|-;have hs:=HS.out;have hw:=HW.out;go_simp;exact hK.out _ _ rfl (br _ _)
  refine jm ?_ ?_;rotate_left
  refine jm ?_ ?_
  ·rintro wj hJ _ rfl K hK;simp only[Jo.z]at hK|-;have xX12:=(X1.b hJ).a 2 (.int .u64 0) rfl;go_simp;exact hK.out _ _ rfl (br _ _)
  refine jm ?_ ?_;rotate_left
  refine jm ?_ ?_
  ·rintro wj hJ _ rfl K hK;simp only[Jo.z]at hK|-;have hsb:=HSB.out;go_simp;exact hK.out _ _ rfl (br _ _)
  refine jm ?_ ?_;rotate_left
  refine jm ?_ ?_
  ·rintro wj hJ _ rfl _ rfl K hK;simp only[Jo.z]at hK|-;have ho:=HO.out;go_simp;exact hK.out _ _ rfl (br _ _)
  refine jm ?_ ?_;rotate_left
  exact jo
  all_goals (rintro wj hJ;(repeat rintro _ rfl);intro K hK;simp only[Jo.z]at hK|-;go_simp;exact hK.out _ _ rfl (br _ _))
 rintro w6 hJ _ _ _ rfl _ rfl _ rfl _ _ _ rfl _ rfl _ rfl _ rfl _ rfl _ rfl -;simp only[Jo.z];replace X1:=X1.b hJ;replace XR:=XR.b hJ;replace HB:=Hqb HB hJ;have xX1:=X1.cell;have zX10:=X1.frozen
 refine jn 11 fun K hK=>?_
 go_simp;refine hK.out _ _ ?_;clear hK K xX1 zX10
 have SX:StN w6 (World.setCell w6 ⟨w.heap.size,1,none⟩ (.int .u64 T)) _ _ #[.bool s,.int .u64 T,.int .u64 0,.int .i64 f] _:=StN.at4 X1 1 (.int .u64 T)
 replace XR:=XR.s SX;replace HB:=Hqs HB SX (by omega);replace X1:=SX.box;clear SX;generalize World.setCell w6 ⟨w.heap.size,1,none⟩ (.int .u64 T)=w7 at *;refine jd ?_;have xX1:=X1.cell;have zX10:=X1.frozen
 go_upto_region 7 with (fail)
 clear xX1 zX10
 have SX:StN w7 (World.setCell w7 ⟨w.heap.size,2,none⟩ (.int .u64 0)) _ _ #[.bool s,.int .u64 T,.int .u64 0,.int .i64 f] _:=StN.at4 X1 2 (.int .u64 0)
 replace XR:=XR.s SX;replace HB:=Hqs HB SX (by omega);replace X1:=SX.box;clear SX;generalize World.setCell w7 ⟨w.heap.size,2,none⟩ (.int .u64 0)=w8 at *;have xX1:=X1.cell;have zX10:=X1.frozen;have hx:=HX.out
 go_upto_region 8 with (fail)
 clear hx;clear xX1 zX10
 have SX:StN w8 (World.setCell w8 ⟨w.heap.size,3,none⟩ (.int .i64 X)) _ _ #[.bool s,.int .u64 T,.int .u64 0,.int .i64 X] _:=StN.at4 X1 3 (.int .i64 X)
 replace XR:=XR.s SX;replace HB:=Hqs HB SX (by omega);replace X1:=SX.box;clear SX;generalize World.setCell w8 ⟨w.heap.size,3,none⟩ (.int .i64 X)=w9 at *;have xXR:=XR.cell;have zXR0:=XR.frozen;have xX1:=X1.cell;go_wp2;clear xXR zXR0 xX1;have SX:=StN.mk4 XR (.bool s) (.int .u64 T) (.int .u64 0) (.int .i64 X)
 exact bq (by simp[results,Tryz.results255,go_sem,SX.box.cell]) rfl ⟨_,_,_,rfl,HRA.out,(SX.below HB.out (by omega))⟩
theorem raised_high{w:World}{s:Bool}{h l:Nat}{H L e:Int}(h0:h≠0)(hh:h < 18446744073709551616)(hl:l < 18446744073709551616)(hH:(h:Int)=H)(hL:(l:Int)=L)(e1: -4000000<=e)(e2:e<=4000000):Calls Tryz.prog 255 #[.agg #[.bool s,.int .u64 H,.int .u64 L,.int .i64 e]] w (PRa w s (h*18446744073709551616+l) (e-64)):=by
 have HRA:=ie (ra_high (e:=e) h0 hh hl);have hb:=blen_mono_le (n:=h) (k:=64) hh;obtain⟨a,ha⟩:∃a,64-(blen h:Int)=a:=⟨_,rfl⟩;obtain⟨u1,u2⟩:=tonat_sub ha hb;obtain⟨R,hR⟩:∃R,((h*2^(64-blen h)+l/2^blen h:Nat):Int)=R:=⟨_,rfl⟩;obtain⟨T,hT⟩:∃T,((h*2^(64-blen h):Nat):Int)=T:=⟨_,rfl⟩;obtain⟨Q,hQ⟩:∃Q,((l/2^blen h:Nat):Int)=Q:=⟨_,rfl⟩
 obtain⟨P,hP⟩:∃P,((l*2^(64-blen h):Nat):Int)=P:=⟨_,rfl⟩;obtain⟨C,hC⟩:∃C,((l*2^(64-blen h)%18446744073709551616:Nat):Int)=C:=⟨_,rfl⟩
 have hT64:h*2^(64-blen h) < 18446744073709551616:=by
  have q1:=tp_small hb;have q2:=tp_lt h;rw[q1]at q2
  omega
 have HS:Hid (H*2^a.toNat=T):=ie (by
  rw[<-hT,<-hH,u1]
  push_cast
  rfl)
 have HP:Hid (L*2^a.toNat=P):=ie (by
  rw[<-hP,<-hL,u1]
  push_cast
  rfl)
 have HPC:Hid (IntKind.u64.wrap P=C):=ie (by
  rw[<-hP,<-hC,IntKind.wrap_u64]
  omega)
 have HQ:Hid (L/2^(64-a).toNat=Q):=ie (by
  rw[<-hQ,<-hL,u2]
  push_cast
  rfl)
 have HO:Hid (bits BinOp.or IntKind.u64 T Q=R):=ie (by
  rw[<-hT,<-hQ,<-hR];exact or_high (by omega) hT64 hl)
 rw[hR,hC,ha]at HRA
 have HW:=ie (show IntKind.u64.wrap T=T from IntWalk.u64_in _ (by omega))
 have a0:0<=a:=by omega
 have a1:a<=64:=by omega
 have hHn:(H==0)=false:=by
  have:H≠0:=by omega
  simpa using this
 have HA:=ie ha;have HL:=ie hL;have HH:=ie hH;obtain⟨X,hX⟩:∃X,e-a=X:=⟨_,rfl⟩;rw[hX]at HRA
 have HX:=ie (show IntKind.i64.wrap (e-a)=X by rw[hX];exact IntWalk.i64_in _ (by omega))
 have HSB:=ie (show IntKind.i64.wrap (64-a)=64-a from IntWalk.i64_in _ (by omega))
 clear ha hL hH hT hR hQ hP hC hX hb u1 u2 hT64
 go_enter Tryz.func255,Tryz.ntmps255
 go_upto_region 1 with (fail)
 generalize hW1:(w.alloc _).alloc _=w1 at *;obtain⟨X1,XR,HB⟩:=Bo.en2 hW1;clear hW1;have xX1:=X1.cell
 go_wp2_with fail
 refine(lead64_any _ hh HH.out HA.out).mono ?_;rintro ee w5 ⟨rfl,B⟩;clear xX1;replace X1:=X1.b B;replace XR:=XR.b B;replace HB:=Hqb HB B;clear B
 go_upto_region 5 with (fail)
 refine jk [0,1,2,3,4,5,6,7,8,9,10] [some 18,some 19,some 20,some 21,some 22,some 23,some 24,some 25,some 26,some 27,some 28,none] [[],[0],[],[1,2],[],[4],[],[6],[5,7],[3,8],[],[]] 12 1 [Jo.qp w.heap.size 1,Jo.Fact.eq (.int .u64 H),Jo.qi a,Jo.Fact.eq (.int .u64 T),Jo.qp w.heap.size 2,Jo.Fact.eq (.int .u64 L),Jo.qi a,Jo.Fact.eq (.int .i64 (64-a)),Jo.Fact.eq (.int .u64 Q),Jo.Fact.eq (.int .u64 R),Jo.qp w.heap.size 1,Jo.Fact.any] ?_ ?_
 ·refine jm ?_ ?_;rotate_left
  refine jm ?_ ?_
  ·rintro wj hJ _ rfl K hK;simp only[Jo.z]at hK|-;have xX11:=(X1.b hJ).a 1 (.int .u64 H) rfl;go_simp;exact hK.out _ _ rfl (br _ _)
  refine jm ?_ ?_;rotate_left
  refine jm ?_ ?_
  ·rintro wj hJ _ rfl _ rfl K hK;simp only[Jo.z]at hK|-;have hs:=HS.out;have hw:=HW.out;go_simp;exact hK.out _ _ rfl (br _ _)
  refine jm ?_ ?_;rotate_left
  refine jm ?_ ?_
  ·rintro wj hJ _ rfl K hK;simp only[Jo.z]at hK|-;have xX12:=(X1.b hJ).a 2 (.int .u64 L) rfl;go_simp;exact hK.out _ _ rfl (br _ _)
  refine jm ?_ ?_;rotate_left
  refine jm ?_ ?_
  ·rintro wj hJ _ rfl K hK;simp only[Jo.z]at hK|-;have hsb:=HSB.out;go_simp;exact hK.out _ _ rfl (br _ _)
  refine jm ?_ ?_
  ·rintro wj hJ _ rfl _ rfl K hK;simp only[Jo.z]at hK|-;have hq:=HQ.out;go_simp;exact hK.out _ _ rfl (br _ _)
  refine jm ?_ ?_
  ·rintro wj hJ _ rfl _ rfl K hK;simp only[Jo.z]at hK|-;have ho:=HO.out;go_simp;exact hK.out _ _ rfl (br _ _)
  refine jm ?_ ?_;rotate_left
  exact jo
  all_goals (rintro wj hJ;(repeat rintro _ rfl);intro K hK;simp only[Jo.z]at hK|-;go_simp;exact hK.out _ _ rfl (br _ _))
 rintro w6 hJ _ _ _ rfl _ rfl _ rfl _ _ _ rfl _ rfl _ rfl _ rfl _ rfl _ rfl -;simp only[Jo.z];replace X1:=X1.b hJ;replace XR:=XR.b hJ;replace HB:=Hqb HB hJ;have xX1:=X1.cell;have zX10:=X1.frozen
 refine jn 11 fun K hK=>?_
 go_simp;refine hK.out _ _ ?_;clear hK K xX1 zX10
 have SX:StN w6 (World.setCell w6 ⟨w.heap.size,1,none⟩ (.int .u64 R)) _ _ #[.bool s,.int .u64 R,.int .u64 L,.int .i64 e] _:=StN.at4 X1 1 (.int .u64 R)
 replace XR:=XR.s SX;replace HB:=Hqs HB SX (by omega);replace X1:=SX.box;clear SX;generalize World.setCell w6 ⟨w.heap.size,1,none⟩ (.int .u64 R)=w7 at *;refine jd ?_;have xX1:=X1.cell;have zX10:=X1.frozen;have hp:=HP.out;have hpc:=HPC.out
 go_upto_region 7 with (fail)
 clear hp hpc;clear xX1 zX10
 have SX:StN w7 (World.setCell w7 ⟨w.heap.size,2,none⟩ (.int .u64 C)) _ _ #[.bool s,.int .u64 R,.int .u64 C,.int .i64 e] _:=StN.at4 X1 2 (.int .u64 C)
 replace XR:=XR.s SX;replace HB:=Hqs HB SX (by omega);replace X1:=SX.box;clear SX;generalize World.setCell w7 ⟨w.heap.size,2,none⟩ (.int .u64 C)=w8 at *;have xX1:=X1.cell;have zX10:=X1.frozen;have hx:=HX.out
 go_upto_region 8 with (fail)
 clear hx;clear xX1 zX10
 have SX:StN w8 (World.setCell w8 ⟨w.heap.size,3,none⟩ (.int .i64 X)) _ _ #[.bool s,.int .u64 R,.int .u64 C,.int .i64 X] _:=StN.at4 X1 3 (.int .i64 X)
 replace XR:=XR.s SX;replace HB:=Hqs HB SX (by omega);replace X1:=SX.box;clear SX;generalize World.setCell w8 ⟨w.heap.size,3,none⟩ (.int .i64 X)=w9 at *;have xXR:=XR.cell;have zXR0:=XR.frozen;have xX1:=X1.cell;go_wp2;clear xXR zXR0 xX1;have SX:=StN.mk4 XR (.bool s) (.int .u64 R) (.int .u64 C) (.int .i64 X)
 exact bq (by simp[results,Tryz.results255,go_sem,SX.box.cell]) rfl ⟨_,_,_,rfl,HRA.out,(SX.below HB.out (by omega))⟩
theorem aRaised{w:World}{s:Bool}{h l:Nat}{H L e:Int}(hh:h < 18446744073709551616)(hl:l < 18446744073709551616)(hH:(h:Int)=H)(hL:(l:Int)=L)(e1: -4000000<=e)(e2:e<=4000000):Calls Tryz.prog 255 #[.agg #[.bool s,.int .u64 H,.int .u64 L,.int .i64 e]] w (PRa w s (h*18446744073709551616+l) (e-64)):=by
 by_cases h0:h=0
 ·subst h0;subst hH;rw[Nat.zero_mul,Nat.zero_add];exact raised_low hl hL e1 e2
 ·exact raised_high h0 hh hl hH hL e1 e2
theorem cut_cases{S:Nat}{F T C X r:Int}{s t:Bool}(ra:Ra S F T C X)(hr:sgi s (lo S F)=r)(ht:exw S F=t):
  (T=0/\0=r/\true=t)\/((T==0)=false/\1048576 < X/\false=t/\nx s (sgi s TP)=r)\/((T==0)=false/\¬1048576 < X/\X < -1048576/\false=t/\0=r)\/((T==0)=false/\ -1048576<=X/\X<=1048576/\Fq 1 s T X r/\(C==0)=t):=by
 obtain⟨t0,t1,k0,k1,hT,hx⟩:=ra
 unfold lo at hr
 unfold exw at ht
 by_cases h0:S=0
 ·rw[if_pos h0]at hr
  have e0:(S==0)=true:=by simpa using h0
  rw[e0,Bool.true_or]at ht;refine .inl ⟨?_,?_,ht⟩
  ·rw[hT,h0]
   rfl
  ·rw[<-hr]
   cases s <;> rfl
 ·right
  rw[if_neg h0]at hr
  have e0:(S==0)=false:=by simpa using h0
  rw[e0,Bool.false_or]at ht;obtain⟨x1,x2⟩:=hx h0;have g1:=tp_ge h0
  have eT:(T==0)=false:=by
   have:T≠0:=by omega
   simpa using this
  rw[<-x1]at hr ht
  by_cases c1:1048576 < X
  ·rw[if_pos c1]at hr
   rw[show decide (X<=1048576)=false from df (by omega),Bool.false_and]at ht
   refine .inl ⟨eT,c1,ht,?_⟩;rw[<-hr]
   have:=TP_eq
   unfold nx
   cases s
   ·rw[wsg_f,wsg_f,if_neg (by decide)]
    omega
   ·rw[wsg_t,wsg_t,if_pos rfl]
    omega
  ·right
   rw[if_neg c1]at hr
   rw[show decide (X<=1048576)=true from dt (by omega),Bool.true_and]at ht
   by_cases c2:X < -1048576
   ·rw[if_pos c2]at hr
    rw[show decide (-1048576<=X)=false from df (by omega),Bool.false_and]at ht
    refine .inl ⟨eT,c1,c2,ht,?_⟩;rw[<-hr]
    cases s <;> rfl
   ·rw[if_neg c2]at hr
    rw[show decide (-1048576<=X)=true from dt (by omega),Bool.true_and]at ht
    refine .inr ⟨eT,by omega,by omega,?_,?_⟩
    ·rw[<-hT]at hr;exact Fq.fin (by omega) t1 (by omega) (by omega) hr
    ·rw[<-ht,Bool.eq_iff_iff,decide_eq_true_iff,<-x2]
     simp
theorem aCut{w:World}{s t:Bool}{h l:Nat}{H L e r:Int}(hh:h < 18446744073709551616)(hl:l < 18446744073709551616)(hH:(h:Int)=H)(hL:(l:Int)=L)(e1: -4000000<=e)(e2:e<=4000000)(hr:sgi s (lo (h*18446744073709551616+l) (e-64))=r)(ht:exw (h*18446744073709551616+l) (e-64)=t):
  Calls Tryz.prog 232 #[.agg #[.bool s,.int .u64 H,.int .u64 L,.int .i64 e]] w (PNB w r t):=by
 have HR:=ie hr;have HT:=ie ht;clear hr ht
 go_enter Tryz.func232,Tryz.ntmps232
 go_upto_region 1 with (fail)
 generalize hW1:(w.alloc _).alloc _=w1 at *;obtain⟨X1,XR,HB⟩:=Bo.en2 hW1;clear hW1;have xX1:=X1.cell
 go_wp2_with fail
 refine(aRaised hh hl hH hL e1 e2).mono ?_;rintro ee w2 ⟨T,C,X,rfl,ra,B⟩;clear xX1;replace X1:=X1.b B;replace XR:=XR.b B;replace HB:=Hqb HB B;clear B;have xX1:=X1.cell;have zX10:=X1.frozen
 go_upto_region 2 with (fail)
 clear xX1 zX10;generalize hS:(((w2.setCell _ _).setCell _ _).setCell _ _).setCell _ _=w3 at *;have SX:=StN.of4 X1 hS;replace XR:=XR.s SX;replace HB:=Hqs HB SX (by omega);replace X1:=SX.box;clear SX hS;have hcc:=cut_cases ra HR.out HT.out;clear ra HR HT hh hl hH hL e1 e2
 rcases hcc with⟨g1,g2,g3⟩ | ⟨g1,g2,g3,g4⟩ | ⟨g1,g2,g3,g4,g5⟩ | ⟨g1,g2,g3,g4,g5⟩
 ·subst g1;subst g2;subst g3;have xXR:=XR.cell;have zXR0:=XR.frozen;have xX1:=X1.cell;go_wp2;clear xXR zXR0 xX1;have SX:=StN.t4 XR 0 false 0 0;exact bq (v:= .tuple #[.agg #[.int .i64 0,.bool false,.int .u64 0,.int .i64 0],.bool true]) (by simp[results,Tryz.results232,go_sem,SX.box.cell]) rfl ⟨_,_,_,_,rfl,Fq.nought,(SX.below HB.out (by omega))⟩
 ·subst g3;obtain⟨i,hi⟩:∃i,sgi s TP=i:=⟨_,rfl⟩;rw[hi]at g4;have HI:=ie hi;have HN:=ie g4;clear hi g4;have xX1:=X1.cell
  go_upto_region 5 with (fail)
  clear xX1;refine jk [0,1,2,3,4,5] [some 15,some 16,some 17,some 18,some 19,some 20,none,some 3] [[],[0],[1],[],[3],[2,4],[],[]] 8 2 [Jo.qp w.heap.size 0,Jo.qb s,Jo.Fact.num i,Jo.qp w.heap.size 0,Jo.qb s,Jo.Fact.num r,Jo.Fact.any,Jo.Fact.any] ?_ ?_
  ·refine jm ?_ ?_;rotate_left
   refine jm ?_ ?_
   ·rintro wj hJ _ rfl K hK;simp only[Jo.z]at hK|-;have xX10:=(X1.b hJ).a 0 (.bool s) rfl;go_simp;exact hK.out _ _ rfl (br _ _)
   refine jm ?_ ?_
   ·rintro wj hJ _ rfl K hK;simp only[Jo.z]at hK|-;go_simp;exact Jo.n1 (nInf HI.out) hK.out
   refine jm ?_ ?_;rotate_left
   refine jm ?_ ?_
   ·rintro wj hJ _ rfl K hK;simp only[Jo.z]at hK|-;have xX10:=(X1.b hJ).a 0 (.bool s) rfl;go_simp;exact hK.out _ _ rfl (br _ _)
   refine jm ?_ ?_
   ·rintro wj hJ _ ⟨K4,s4,M4,E4,rfl,q4⟩ _ rfl K hK;simp only[Jo.z]at hK|-;go_simp;refine(nNext (r:=r) q4.top (by rw[q4.rk];exact HN.out)).mono ?_;rintro ee wk ⟨K5,s5,M5,E5,rfl,q5,B⟩;exact hK.out _ _ ⟨K5,s5,M5,E5,rfl,q5⟩ B
   exact jo
   all_goals (rintro wj hJ;(repeat rintro _ rfl);intro K hK;simp only[Jo.z]at hK|-;go_simp;exact hK.out _ _ rfl (br _ _))
  rintro w4 hJ _ _ _ rfl _ ⟨K4,s4,M4,E4,rfl,_⟩ _ _ _ rfl _ ⟨K5,s5,M5,E5,rfl,q5⟩ -;simp only[Jo.z];replace X1:=X1.b hJ;replace XR:=XR.b hJ;replace HB:=Hqb HB hJ;have xXR:=XR.cell;have zXR0:=XR.frozen
  refine jn 6 fun K hK=>?_
  go_simp;refine hK.out _ _ ?_;clear hK K xXR zXR0;generalize hS:(((w4.setCell _ _).setCell _ _).setCell _ _).setCell _ _=w5 at *;have SX:=StN.of4 XR hS;replace X1:=X1.s SX;replace HB:=Hqs HB SX (by omega);replace XR:=SX.box;clear SX hS
  refine jn 7 fun K hK=>?_
  go_simp;refine hK.out _ _ ?_;clear hK K;refine jd ?_;go_wp2;exact bq (v:= .tuple #[.agg #[.int .i64 K5,.bool s5,.int .u64 M5,.int .i64 E5],.bool false]) (by simp[results,Tryz.results232,go_sem,XR.cell]) rfl ⟨_,_,_,_,rfl,q5,HB.out⟩
 ·subst g4;subst g5;have xXR:=XR.cell;have zXR0:=XR.frozen;have xX1:=X1.cell;go_wp2;clear xXR zXR0 xX1;have SX:=StN.t4 XR 0 false 0 0;exact bq (v:= .tuple #[.agg #[.int .i64 0,.bool false,.int .u64 0,.int .i64 0],.bool false]) (by simp[results,Tryz.results232,go_sem,SX.box.cell]) rfl ⟨_,_,_,_,rfl,Fq.nought,(SX.below HB.out (by omega))⟩
 ·have HTT:=ie g5;clear g5;have xX1:=X1.cell
  go_upto_region 8 with (fail)
  clear xX1;refine Jo.rl (w.heap.size+1) #[.int .i64 1,.bool s,.int .u64 T,.int .i64 X] 24 [0,1,2,3,4,5,6,7,8,9,10] [some 26,some 27,some 28,some 29,some 30,some 31,some 32,some 33,some 34,some 35,none,some 3] [[],[0],[],[2],[],[4],[1,3,5],[],[7],[8],[6],[]] 12 1 [Jo.kp w.heap.size 0,Jo.LFact.eq (.bool s),Jo.kp w.heap.size 1,Jo.LFact.eq (.int .u64 T),Jo.kp w.heap.size 3,Jo.LFact.eq (.int .i64 X),Jo.LFact.eq (.agg #[.int .i64 1,.bool s,.int .u64 T,.int .i64 X]),Jo.kp w.heap.size 2,Jo.LFact.eq (.int .u64 C),Jo.LFact.eq (.bool t),Jo.LFact.done,Jo.LFact.any] (by kernel_rfl) (by kernel_rfl) (by decide) rfl ?_ ?_
  ·refine Jo.lm rfl ?_ ?_
   ·rintro wj hJ K hK;simp only[Jo.z]at hK|-;go_simp;exact hK.out _ _ rfl (Jo.Off.refl _ _ _ _)
   refine Jo.lm rfl ?_ ?_
   ·rintro wj hJ _ rfl K hK;simp only[Jo.z]at hK|-;replace X1:=X1.off (by omega) hJ;have xX1:=X1.cell;go_simp;exact hK.out _ _ rfl (Jo.Off.refl _ _ _ _)
   refine Jo.lm rfl ?_ ?_
   ·rintro wj hJ K hK;simp only[Jo.z]at hK|-;go_simp;exact hK.out _ _ rfl (Jo.Off.refl _ _ _ _)
   refine Jo.lm rfl ?_ ?_
   ·rintro wj hJ _ rfl K hK;simp only[Jo.z]at hK|-;replace X1:=X1.off (by omega) hJ;have xX1:=X1.cell;go_simp;exact hK.out _ _ rfl (Jo.Off.refl _ _ _ _)
   refine Jo.lm rfl ?_ ?_
   ·rintro wj hJ K hK;simp only[Jo.z]at hK|-;go_simp;exact hK.out _ _ rfl (Jo.Off.refl _ _ _ _)
   refine Jo.lm rfl ?_ ?_
   ·rintro wj hJ _ rfl K hK;simp only[Jo.z]at hK|-;replace X1:=X1.off (by omega) hJ;have xX1:=X1.cell;go_simp;exact hK.out _ _ rfl (Jo.Off.refl _ _ _ _)
   refine Jo.lm rfl ?_ ?_
   ·rintro wj hJ _ rfl _ rfl _ rfl K hK;simp only[Jo.z]at hK|-;go_simp;exact hK.out _ _ rfl (Jo.Off.refl _ _ _ _)
   refine Jo.lm rfl ?_ ?_
   ·rintro wj hJ K hK;simp only[Jo.z]at hK|-;go_simp;exact hK.out _ _ rfl (Jo.Off.refl _ _ _ _)
   refine Jo.lm rfl ?_ ?_
   ·rintro wj hJ _ rfl K hK;simp only[Jo.z]at hK|-;replace X1:=X1.off (by omega) hJ;have xX1:=X1.cell;go_simp;exact hK.out _ _ rfl (Jo.Off.refl _ _ _ _)
   refine Jo.lm rfl ?_ ?_
   ·rintro wj hJ _ rfl K hK;simp only[Jo.z]at hK|-;have htt:=HTT.out;go_simp
    exact hK.out _ _ (by first | rfl | (show Value.bool _=Value.bool _;rw[htt])) (Jo.Off.refl _ _ _ _)
   refine Jo.lm rfl ?_ ?_
   ·rintro wj hJ _ rfl K hK;simp only[Jo.z]at hK|-
    obtain⟨v0,v1,v2,v3,XO⟩:∃v0 v1 v2 v3,Bo wj (w.heap.size+1) #[v0,v1,v2,v3] 24:=by
     rcases hJ.own with e | e
     ·exact⟨_,_,_,_,XR.keep e⟩
     ·exact⟨_,_,_,_,e⟩
    have y0:=XO.a 0 (v0) rfl;have u0:=XO.frozen 0;have y1:=XO.a 1 (v1) rfl;have u1:=XO.frozen 1;have y2:=XO.a 2 (v2) rfl;have u2:=XO.frozen 2;have y3:=XO.a 3 (v3) rfl;have u3:=XO.frozen 3;go_simp;have SX:=StN.t4 XO 1 s T X;exact hK.out undef _ SX.box (Jo.Off.of_stn SX)
   exact jo
  rintro w4 hJ _ _ _ rfl _ _ _ rfl _ _ _ rfl _ rfl _ _ _ rfl _ rfl u10 d10 -;simp only[Jo.z];replace HB:=ie (hJ.below HB.out (by omega) XR.lt)
  replace XR:Bo w4 (w.heap.size+1) #[.int .i64 1,.bool s,.int .u64 T,.int .i64 X] 24:=d10
  refine jn 11 fun K hK=>?_
  go_simp;refine hK.out _ _ ?_;clear hK K;refine jd ?_;go_wp2;exact bq (v:= .tuple #[.agg #[.int .i64 1,.bool s,.int .u64 T,.int .i64 X],.bool t]) (by simp[results,Tryz.results232,go_sem,XR.cell]) rfl ⟨_,_,_,_,rfl,g4,HB.out⟩
def Wd (s:Bool)(H L e:Int)(f:Bool->Int):Prop:=∃h l:Nat,h < 18446744073709551616/\l < 18446744073709551616/\(h:Int)=H/\(l:Int)=L/\ -2900000<=e/\e<=2900000/\∀up,rnd up (mk (sgi s ((h*18446744073709551616+l:Nat):Int)) (e-64)).1 (mk (sgi s ((h*18446744073709551616+l:Nat):Int)) (e-64)).2=f up
def PW6 (w:World)(f:Bool->Int)(e:Ending)(w':World):Prop:=∃s H L x,e= .returned (.agg #[.bool s,.int .u64 H,.int .u64 L,.int .i64 x])/\Wd s H L x f/\Below w.heap.size w w'
theorem aRound{w:World}{s up:Bool}{H L e r:Int}{fu:Bool->Int}(hw:Wd s H L e fu)(hr:fu up=r):
  Calls Tryz.prog 179 #[.agg #[.bool s,.int .u64 H,.int .u64 L,.int .i64 e],.bool up] w (PN w r):=by
 obtain⟨h,l,hh,hl,hH,hL,e1,e2,hf⟩:=hw
 have e3: -4000000<=e:=by omega
 have e4:e<=4000000:=by omega
 obtain⟨w1_,w2_,w3_⟩:=wide_rnd (neg:=s) (S:=h*18446744073709551616+l) (F:=e-64) (by omega) (by omega) (by omega) rfl rfl
 have k1:exw (h*18446744073709551616+l) (e-64)=true->sgi s (lo (h*18446744073709551616+l) (e-64))=r:=fun c=>by
  rw[<-w1_ c up,hf up,hr]
 have k2:s=up->sgi s (lo (h*18446744073709551616+l) (e-64))=r:=fun c=>by
  rw[<-w2_,hf s,c,hr]
 have k3:exw (h*18446744073709551616+l) (e-64)=false->(!s)=up->nx up (sgi s (lo (h*18446744073709551616+l) (e-64)))=r:=fun c d=>by
  rw[<-d,<-w3_ c,hf (!s),d,hr]
 obtain⟨x,hx⟩:∃x,sgi s (lo (h*18446744073709551616+l) (e-64))=x:=⟨_,rfl⟩;obtain⟨t,ht⟩:∃t,exw (h*18446744073709551616+l) (e-64)=t:=⟨_,rfl⟩;rw[hx,ht]at k1 k3;rw[hx]at k2;have HX:=ie hx;have HT:=ie ht;have K1_:=ie k1;have K2_:=ie k2;have K3_:=ie k3;clear hx ht k1 k2 k3 w1_ w2_ w3_ hf hr e1 e2
 go_enter Tryz.func179,Tryz.ntmps179
 go_upto_region 1 with (fail)
 generalize hW1:(w.alloc _).alloc _=w1 at *;obtain⟨X1,XR,HB⟩:=Bo.en2 hW1;clear hW1;have xX1:=X1.cell
 go_wp2_with fail
 refine(aCut hh hl hH hL e3 e4 HX.out HT.out).mono ?_;rintro ee w5 ⟨K2,s2,M2,E2,rfl,q2,B⟩;clear xX1;replace X1:=X1.b B;replace XR:=XR.b B;replace HB:=Hqb HB B;clear B;clear HX HT
 go_upto_region 2 with (fail)
 have nX5X1:=X1.lt;have nX5XR:=XR.lt;generalize hWn:w5.alloc _=w6 at *;obtain⟨X5,BW⟩:=Bo.nw hWn;clear hWn;replace X1:=X1.b BW;replace XR:=XR.b BW;replace HB:=Hqb HB BW;clear BW
 by_cases ht:t=true
 ·subst ht
  obtain rfl:x=r:=K1_.out rfl
  clear K1_ K2_ K3_;have xXR:=XR.cell;have zXR0:=XR.frozen;have xX1:=X1.cell;have xX5:=X5.cell;go_wp2;clear xXR zXR0 xX1 xX5;have SX:=StN.t4 XR K2 s2 M2 E2;exact bq (by simp[results,Tryz.results179,go_sem,SX.box.cell]) rfl ⟨_,_,_,_,rfl,q2,(SX.below HB.out (by omega))⟩
 ·have ht:t=false:=by simpa using ht
  subst ht
  by_cases hs:s=up
  ·obtain rfl:x=r:=K2_.out hs
   clear K1_ K2_ K3_;subst hs;have xXR:=XR.cell;have zXR0:=XR.frozen;have xX1:=X1.cell;have xX5:=X5.cell;go_wp2;clear xXR zXR0 xX1 xX5;have SX:=StN.t4 XR K2 s2 M2 E2;exact bq (by simp[results,Tryz.results179,go_sem,SX.box.cell]) rfl ⟨_,_,_,_,rfl,q2,(SX.below HB.out (by omega))⟩
  ·obtain rfl:(!s)=up:=by cases s <;> cases up <;> first | rfl | exact absurd rfl hs
   clear hs
   have e2:(s==!s)=false:=by cases s <;> rfl
   have HRR:Hid (nx (!s) (rk K2 s2 M2 E2)=r):=ie (by rw[q2.rk];exact K3_.out rfl rfl)
   clear K1_ K2_ K3_;have xX1:=X1.cell;have xX5:=X5.cell
   go_wp2_with fail
   refine(nNext q2.top HRR.out).mono ?_;rintro ee w7 ⟨K3,s3,M3,E3,rfl,q3,B⟩;clear xX1 xX5;replace X1:=X1.b B;replace XR:=XR.b B;replace X5:=X5.b B;replace HB:=Hqb HB B;clear B;have xXR:=XR.cell;have zXR0:=XR.frozen;have xX1:=X1.cell;have xX5:=X5.cell
   go_wp2;clear xXR zXR0 xX1 xX5;have SX:=StN.t4 XR K3 s3 M3 E3;exact bq (by simp[results,Tryz.results179,go_sem,SX.box.cell]) rfl ⟨_,_,_,_,rfl,q3,(SX.below HB.out (by omega))⟩
def PMv (w:World)(s:Bool)(V x:Int)(e:Ending)(w':World):Prop:=∃H L,e= .returned (.agg #[.bool s,.int .u64 H,.int .u64 L,.int .i64 x])/\(0<=H/\H < 18446744073709551616/\0<=L/\L < 18446744073709551616/\H*18446744073709551616+L=V)/\Below w.heap.size w w'
theorem shr64_any{M k Q:Int}(h0:0<=M)(hM:LQ M)(hk:0<=k)(hQ:M/2^k.toNat=Q):Op.shift .shr .u64 M .i64 k=pure (.int .u64 Q):=by
 subst hQ
 rcases Int.lt_or_le k 65 with c | c
 ·exact shift_shr .u64 .i64 M k hk (by show k<=64;omega)
 ·have e1:min k.toNat IntKind.u64.bits=64:=by show min k.toNat 64=64;omega
  have e2:M/2^k.toNat=0:=Int.ediv_eq_zero_of_lt h0 (Int.lt_of_lt_of_le (show M < 2^64 from hM) (p2_le (by omega)))
  have e3:M.fdiv (2^64)=0:=by
   rw[Int.fdiv_eq_ediv_of_nonneg _ (by decide)];exact Int.ediv_eq_zero_of_lt h0 hM
  unfold Op.shift
  rw[if_neg (by omega),e1,e2]
  show pure (Value.int .u64 (M.fdiv (2^64)))=_
  rw[e3]
theorem or_one{Q:Int}(h0:0<=Q)(h1:LQ Q):bits BinOp.or IntKind.u64 Q 1=Q/2*2+1:=by
 obtain⟨q,rfl⟩:=Int.eq_ofNat_of_zero_le h0;have h:=u64_or_nat q 1 (by omega) (by decide)
 have e:q ||| 1=q/2*2+1:=by
  apply Nat.eq_of_testBit_eq
  intro i
  cases i with
  | zero=>simp [Nat.testBit_zero]
  | succ i=>
   rw[Nat.testBit_or,Nat.testBit_add_one,Nat.testBit_add_one,Nat.testBit_add_one,show (1:Nat) /2=0 by decide,show (q/2*2+1) /2=q/2 by omega,Nat.zero_testBit,Bool.or_false]
 rw[e]at h;exact h
theorem mv_low{M:Int}{n:Nat}(h0:0<=M)(hM:LQ M)(h1:1<=n)(h2:n<=64):0<=M/2^n/\M/2^n < 18446744073709551616/\M/2^n*18446744073709551616+M*2^(64-n)%18446744073709551616=mvd M n:=by
 obtain⟨a,b⟩:=div_le_self h0 (p2pos n);refine⟨a,by omega,?_⟩
 have e1:M*2^(64-n) /18446744073709551616=M/2^n:=by
  rw[show (18446744073709551616:Int)=2^n*2^(64-n) by rw[<-Int.pow_add,show n+(64-n)=64 by omega];rfl]
  exact Int.mul_ediv_mul_of_pos_left _ _ (p2pos _)
 unfold mvd
 rw[if_pos h2,<-e1]
 omega
theorem moved_low{w:World}{s:Bool}{M E N X:Int}{n:Nat}(hT:Tb w)(h0:9223372036854775808<=M)(hM:LQ M)(hN:(n:Int)=N)(hX:E+N=X)(b1: -2000000<=E)(b2:E<=2000000)(n1:1<=n)(n2:n<=64):Calls Tryz.prog 229 #[VQ 1 s M E,.int .i64 N] w (PMv w s (mvd M n) X):=by
 delta VQ
 obtain⟨v1,v2,v3⟩:=mv_low (show 0<=M by omega) hM n1 n2
 obtain⟨H,hH⟩:∃H,M/2^n=H:=⟨_,rfl⟩;obtain⟨P,hP⟩:∃P,M*2^(64-n)=P:=⟨_,rfl⟩;obtain⟨L,hL⟩:∃L,P%18446744073709551616=L:=⟨_,rfl⟩;rw[hP,hL]at v3;rw[hH]at v1 v2 v3
 have l1:0<=L/\L < 18446744073709551616:=by omega
 have HH:Hid (M/2^N.toNat=H):=ie (by rw[<-hN];exact hH)
 have HP:Hid (M*2^(64-N).toNat=P):=ie (by rw[<-hN,show (64-(n:Int)).toNat=64-n by omega];exact hP)
 have HL:Hid (IntKind.u64.wrap P=L):=ie (by rw[IntKind.wrap_u64];exact hL)
 have HV:=ie v3
 have HX:=ie (show IntKind.i64.wrap (E+N)=X by rw[hX];exact IntWalk.i64_in _ (by omega))
 have HSB:=ie (show IntKind.i64.wrap (64-N)=64-N from IntWalk.i64_in _ (by omega))
 have m1:1<=N:=by omega
 have m2:N<=64:=by omega
 clear hH hP hL v3 hX hN
 go_enter Tryz.func229,Tryz.ntmps229
 go_upto_region 1 with (fail)
 generalize hW1:(w.alloc _).alloc _=w1 at *;obtain⟨X2,XR,HB⟩:=Bo.en2 hW1;clear hW1;have xX2:=X2.cell;have hx:=HX.out
 go_upto_region 2 with (fail)
 clear hx;clear xX2;have nX5X2:=X2.lt;have nX5XR:=XR.lt;generalize hWn:w1.alloc _=w2 at *;obtain⟨X5,BW⟩:=Bo.nw hWn;clear hWn;replace X2:=X2.b BW;replace XR:=XR.b BW;replace HB:=Hqb HB BW;clear BW;have xX2:=X2.cell;have xX5:=X5.cell
 go_upto_region 3 with (fail)
 clear xX2 xX5;refine Jo.rl (w1.heap.size) #[.bool s,.int .u64 H,.int .u64 0,.int .i64 X] 132 [0,1,2,3,4,5,6,7,8,9,10,11] [some 15,some 16,some 17,some 18,some 19,some 20,some 21,some 22,some 23,some 24,none,some 25,none] [[],[0],[],[1,2],[],[4],[],[6],[5,7],[],[3,9],[],[]] 13 1 [Jo.kp w.heap.size 2,Jo.LFact.eq (.int .u64 M),Jo.LFact.eq (.int .i64 N),Jo.LFact.eq (.int .u64 H),Jo.kp w.heap.size 2,Jo.LFact.eq (.int .u64 M),Jo.LFact.eq (.int .i64 N),Jo.LFact.eq (.int .i64 (64-N)),Jo.LFact.eq (.int .u64 L),Jo.kp w1.heap.size 1,Jo.LFact.done,Jo.kp w1.heap.size 2,Jo.LFact.any] (by kernel_rfl) (by kernel_rfl) (by decide) rfl ?_ ?_
 ·refine Jo.lm rfl ?_ ?_
  ·rintro wj hJ K hK;simp only[Jo.z]at hK|-;go_simp;exact hK.out _ _ rfl (Jo.Off.refl _ _ _ _)
  refine Jo.lm rfl ?_ ?_
  ·rintro wj hJ _ rfl K hK;simp only[Jo.z]at hK|-;replace X2:=X2.off (by omega) hJ;have xX2:=X2.cell;go_simp;exact hK.out _ _ rfl (Jo.Off.refl _ _ _ _)
  refine Jo.lm rfl ?_ ?_
  ·rintro wj hJ K hK;simp only[Jo.z]at hK|-;go_simp;exact hK.out _ _ rfl (Jo.Off.refl _ _ _ _)
  refine Jo.lm rfl ?_ ?_
  ·rintro wj hJ _ rfl _ rfl K hK;simp only[Jo.z]at hK|-;have hh:=HH.out;go_simp;exact hK.out _ _ rfl (Jo.Off.refl _ _ _ _)
  refine Jo.lm rfl ?_ ?_
  ·rintro wj hJ K hK;simp only[Jo.z]at hK|-;go_simp;exact hK.out _ _ rfl (Jo.Off.refl _ _ _ _)
  refine Jo.lm rfl ?_ ?_
  ·rintro wj hJ _ rfl K hK;simp only[Jo.z]at hK|-;replace X2:=X2.off (by omega) hJ;have xX2:=X2.cell;go_simp;exact hK.out _ _ rfl (Jo.Off.refl _ _ _ _)
  refine Jo.lm rfl ?_ ?_
  ·rintro wj hJ K hK;simp only[Jo.z]at hK|-;go_simp;exact hK.out _ _ rfl (Jo.Off.refl _ _ _ _)
  refine Jo.lm rfl ?_ ?_
  ·rintro wj hJ _ rfl K hK;simp only[Jo.z]at hK|-;have hsb:=HSB.out;go_simp;exact hK.out _ _ rfl (Jo.Off.refl _ _ _ _)
  refine Jo.lm rfl ?_ ?_
  ·rintro wj hJ _ rfl _ rfl K hK;simp only[Jo.z]at hK|-;have hp:=HP.out;have hl:=HL.out;go_simp;exact hK.out _ _ rfl (Jo.Off.refl _ _ _ _)
  refine Jo.lm rfl ?_ ?_
  ·rintro wj hJ K hK;simp only[Jo.z]at hK|-;go_simp;exact hK.out _ _ rfl (Jo.Off.refl _ _ _ _)
  refine Jo.lm rfl ?_ ?_
  ·rintro wj hJ _ rfl _ rfl K hK;simp only[Jo.z]at hK|-
   rcases hJ.own with e | e
   ·have XO:Bo wj (w1.heap.size) #[.bool s,.int .u64 0,.int .u64 0,.int .i64 X] 132:=X5.keep e
    have y0:=XO.a 0 (.bool s) rfl;have u0:=XO.frozen 0;have y1:=XO.a 1 (.int .u64 0) rfl;have u1:=XO.frozen 1;have y2:=XO.a 2 (.int .u64 0) rfl;have u2:=XO.frozen 2;have y3:=XO.a 3 (.int .i64 X) rfl;have u3:=XO.frozen 3;go_simp
    have SX:StN wj (World.setCell wj ⟨w1.heap.size,1,none⟩ (.int .u64 H)) _ _ #[.bool s,.int .u64 H,.int .u64 0,.int .i64 X] _:=StN.at4 XO 1 (.int .u64 H)
    exact hK.out undef _ SX.box (Jo.Off.of_stn SX)
   ·have XO:Bo wj (w1.heap.size) #[.bool s,.int .u64 H,.int .u64 0,.int .i64 X] 132:=e
    have y0:=XO.a 0 (.bool s) rfl;have u0:=XO.frozen 0;have y1:=XO.a 1 (.int .u64 H) rfl;have u1:=XO.frozen 1;have y2:=XO.a 2 (.int .u64 0) rfl;have u2:=XO.frozen 2;have y3:=XO.a 3 (.int .i64 X) rfl;have u3:=XO.frozen 3;go_simp
    have SX:StN wj (World.setCell wj ⟨w1.heap.size,1,none⟩ (.int .u64 H)) _ _ #[.bool s,.int .u64 H,.int .u64 0,.int .i64 X] _:=StN.at4 XO 1 (.int .u64 H)
    exact hK.out undef _ SX.box (Jo.Off.of_stn SX)
  refine Jo.lm rfl ?_ ?_
  ·rintro wj hJ K hK;simp only[Jo.z]at hK|-;go_simp;exact hK.out _ _ rfl (Jo.Off.refl _ _ _ _)
  exact jo
 rintro w3 hJ _ _ _ rfl _ rfl _ rfl _ _ _ rfl _ rfl _ rfl _ rfl _ _ u10 d10 _ rfl -;simp only[Jo.z];replace HB:=ie (hJ.below HB.out (by omega) X5.lt);replace XR:=XR.off (by omega) hJ
 replace X5:Bo w3 (w1.heap.size) #[.bool s,.int .u64 H,.int .u64 0,.int .i64 X] 132:=d10
 have xX5:=X5.cell;have zX50:=X5.frozen
 refine jn 12 fun K hK=>?_
 go_simp;refine hK.out _ _ ?_;clear hK K xX5 zX50
 have SX:StN w3 (World.setCell w3 ⟨w1.heap.size,2,none⟩ (.int .u64 L)) _ _ #[.bool s,.int .u64 H,.int .u64 L,.int .i64 X] _:=StN.at4 X5 2 (.int .u64 L)
 replace XR:=XR.s SX;replace HB:=Hqs HB SX (by omega);replace X5:=SX.box;clear SX;generalize World.setCell w3 ⟨w1.heap.size,2,none⟩ (.int .u64 L)=w4 at *;refine jd ?_;have xXR:=XR.cell;have zXR0:=XR.frozen;have xX5:=X5.cell;go_wp2;clear xXR zXR0 xX5
 have SX:=StN.mk4 XR (.bool s) (.int .u64 H) (.int .u64 L) (.int .i64 X);exact bq (v:= .agg #[.bool s,.int .u64 H,.int .u64 L,.int .i64 X]) (by simp[results,Tryz.results229,go_sem,SX.box.cell]) rfl ⟨H,L,rfl,⟨v1,v2,l1.1,l1.2,HV.out⟩,(SX.below HB.out (by omega))⟩
theorem moved_even{w:World}{s:Bool}{M E N X:Int}{n:Nat}(hT:Tb w)(h0:9223372036854775808<=M)(hM:LQ M)(hN:(n:Int)=N)(hX:E+N=X)(b1: -2000000<=E)(b2:E<=2000000)(n1:1<=n)(n2:64 < n)(n3:n<=4000000)(hr:M%2^(n-64)=0):Calls Tryz.prog 229 #[VQ 1 s M E,.int .i64 N] w (PMv w s (mvd M n) X):=by
 delta VQ
 obtain⟨v1,v2⟩:=div_le_self (show 0<=M by omega) (p2pos (n-64))
 obtain⟨Q,hQ⟩:∃Q,M/2^(n-64)=Q:=⟨_,rfl⟩;obtain⟨k,hk⟩:∃k,N-64=k:=⟨_,rfl⟩
 have hkn:k.toNat=n-64:=by omega
 have k1:1<=k:=by omega
 rw[hQ]at v1 v2
 have hV:mvd M n=Q:=by
  unfold mvd
  rw[if_neg (by omega),if_pos hr,hQ]
 obtain⟨m,hm⟩:∃m:Nat,(m:Int)=M:=⟨M.toNat,by omega⟩
 obtain⟨z,hz⟩:∃z,((Lib.ctz 64 m:Nat):Int)=z:=⟨_,rfl⟩
 have m0:m≠0:=by omega
 have m1:m < 18446744073709551616:=by omega
 have hc:¬z < k:=by
  have h1:=ctz_dvd (n:=n-64) m0 m1
  have h2:m%2^(n-64)=0↔M%2^(n-64)=0:=by
   rw[<-hm]
   constructor
   ·intro c
    have:((m%2^(n-64):Nat):Int)=0:=by rw[c];rfl
    rw[<-this]
    push_cast
    rfl
   ·intro c
    have:((m%2^(n-64):Nat):Int)=0:=by
     rw[<-c]
     push_cast
     rfl
    omega
  have h3:n-64<=Lib.ctz 64 m↔M%2^(n-64)=0:=h1.trans h2
  have h4:=h3.2 hr
  omega
 have HSH:Hid (Op.shift .shr .u64 M .i64 k=pure (.int .u64 Q)):=ie (shr64_any (by omega) hM (by omega) (by rw[hkn];exact hQ))
 have HQ:Hid (M/2^k.toNat=Q):=ie (by rw[hkn];exact hQ)
 have HX:=ie (show IntKind.i64.wrap (E+N)=X by rw[hX];exact IntWalk.i64_in _ (by omega))
 have HK:=ie (show IntKind.i64.wrap (N-64)=k by rw[hk];exact IntWalk.i64_in _ (by omega))
 have HM:=ie hm;have HZ:=ie hz;have HV:=ie hV;have HO:=ie (or_one (Q:=Q) v1 (by omega))
 have m2:¬N<=64:=by omega
 obtain⟨o,ho⟩:∃o,Q/2*2+1=o:=⟨_,rfl⟩;rw[ho]at HO
 have ob:0<=o/\o < 18446744073709551616:=by omega
 have HOO:=ie ho;clear hQ hX hN hm hz hV hr ho hkn hk
 go_enter Tryz.func229,Tryz.ntmps229
 go_upto_region 1 with (fail)
 generalize hW1:(w.alloc _).alloc _=w1 at *;obtain⟨X2,XR,HB⟩:=Bo.en2 hW1;replace hT:=hT.below HB.out;clear hW1;have xX2:=X2.cell;have hx:=HX.out
 go_upto_region 2 with (fail)
 clear hx;clear xX2;have nX5X2:=X2.lt;have nX5XR:=XR.lt;generalize hWn:w1.alloc _=w2 at *;obtain⟨X5,BW⟩:=Bo.nw hWn;clear hWn;replace X2:=X2.b BW;replace XR:=XR.b BW;replace hT:=hT.b BW;replace HB:=Hqb HB BW;clear BW;have xX2:=X2.cell;have xX5:=X5.cell;have zX50:=X5.frozen;have hkk:=HK.out
 have hsh:=HSH.out;have hq:=HQ.out
 go_upto_region 7 with (fail)
 clear hkk hsh hq;clear xX2 xX5 zX50
 have SX:StN w2 (World.setCell w2 ⟨w1.heap.size,2,none⟩ (.int .u64 Q)) _ _ #[.bool s,.int .u64 0,.int .u64 Q,.int .i64 X] _:=StN.at4 X5 2 (.int .u64 Q)
 replace X2:=X2.s SX;replace XR:=XR.s SX;replace hT:=hT.s SX;replace HB:=Hqs HB SX (by omega);replace X5:=SX.box;clear SX;generalize World.setCell w2 ⟨w1.heap.size,2,none⟩ (.int .u64 Q)=w3 at *;have xX2:=X2.cell
 go_wp2_with fail
 refine(aTz hT m0 m1 HM.out HZ.out).mono ?_;rintro ee w4 ⟨rfl,B⟩;clear xX2;replace XR:=XR.b B;replace X5:=X5.b B;replace HB:=Hqb HB B;clear B;have xXR:=XR.cell;have zXR0:=XR.frozen;have xX5:=X5.cell;go_wp2;clear xXR zXR0 xX5;have SX:=StN.mk4 XR (.bool s) (.int .u64 0) (.int .u64 Q) (.int .i64 X)
 exact bq (v:= .agg #[.bool s,.int .u64 0,.int .u64 Q,.int .i64 X]) (by simp[results,Tryz.results229,go_sem,SX.box.cell]) rfl ⟨0,Q,rfl,⟨by decide,by decide,v1,by omega,by rw[HV.out];omega⟩,(SX.below HB.out (by omega))⟩
theorem moved_odd{w:World}{s:Bool}{M E N X:Int}{n:Nat}(hT:Tb w)(h0:9223372036854775808<=M)(hM:LQ M)(hN:(n:Int)=N)(hX:E+N=X)(b1: -2000000<=E)(b2:E<=2000000)(n1:1<=n)(n2:64 < n)(n3:n<=4000000)(hr:M%2^(n-64)≠0):Calls Tryz.prog 229 #[VQ 1 s M E,.int .i64 N] w (PMv w s (mvd M n) X):=by
 delta VQ
 obtain⟨v1,v2⟩:=div_le_self (show 0<=M by omega) (p2pos (n-64))
 obtain⟨Q,hQ⟩:∃Q,M/2^(n-64)=Q:=⟨_,rfl⟩;obtain⟨k,hk⟩:∃k,N-64=k:=⟨_,rfl⟩
 have hkn:k.toNat=n-64:=by omega
 have k1:1<=k:=by omega
 rw[hQ]at v1 v2
 have hV:mvd M n=Q/2*2+1:=by
  unfold mvd
  rw[if_neg (by omega),if_neg hr,hQ]
 obtain⟨m,hm⟩:∃m:Nat,(m:Int)=M:=⟨M.toNat,by omega⟩
 obtain⟨z,hz⟩:∃z,((Lib.ctz 64 m:Nat):Int)=z:=⟨_,rfl⟩
 have m0:m≠0:=by omega
 have m1:m < 18446744073709551616:=by omega
 have hc:z < k:=by
  have h1:=ctz_dvd (n:=n-64) m0 m1
  have h2:m%2^(n-64)=0↔M%2^(n-64)=0:=by
   rw[<-hm]
   constructor
   ·intro c
    have:((m%2^(n-64):Nat):Int)=0:=by rw[c];rfl
    rw[<-this]
    push_cast
    rfl
   ·intro c
    have:((m%2^(n-64):Nat):Int)=0:=by
     rw[<-c]
     push_cast
     rfl
    omega
  have h3:n-64<=Lib.ctz 64 m↔M%2^(n-64)=0:=h1.trans h2
  have h4:¬(n-64<=Lib.ctz 64 m):=fun c=>hr (h3.1 c)
  omega
 have HSH:Hid (Op.shift .shr .u64 M .i64 k=pure (.int .u64 Q)):=ie (shr64_any (by omega) hM (by omega) (by rw[hkn];exact hQ))
 have HQ:Hid (M/2^k.toNat=Q):=ie (by rw[hkn];exact hQ)
 have HX:=ie (show IntKind.i64.wrap (E+N)=X by rw[hX];exact IntWalk.i64_in _ (by omega))
 have HK:=ie (show IntKind.i64.wrap (N-64)=k by rw[hk];exact IntWalk.i64_in _ (by omega))
 have HM:=ie hm;have HZ:=ie hz;have HV:=ie hV;have HO:=ie (or_one (Q:=Q) v1 (by omega))
 have m2:¬N<=64:=by omega
 obtain⟨o,ho⟩:∃o,Q/2*2+1=o:=⟨_,rfl⟩;rw[ho]at HO
 have ob:0<=o/\o < 18446744073709551616:=by omega
 have HOO:=ie ho;clear hQ hX hN hm hz hV hr ho hkn hk
 go_enter Tryz.func229,Tryz.ntmps229
 go_upto_region 1 with (fail)
 generalize hW1:(w.alloc _).alloc _=w1 at *;obtain⟨X2,XR,HB⟩:=Bo.en2 hW1;replace hT:=hT.below HB.out;clear hW1;have xX2:=X2.cell;have hx:=HX.out
 go_upto_region 2 with (fail)
 clear hx;clear xX2;have nX5X2:=X2.lt;have nX5XR:=XR.lt;generalize hWn:w1.alloc _=w2 at *;obtain⟨X5,BW⟩:=Bo.nw hWn;clear hWn;replace X2:=X2.b BW;replace XR:=XR.b BW;replace hT:=hT.b BW;replace HB:=Hqb HB BW;clear BW;have xX2:=X2.cell;have xX5:=X5.cell;have zX50:=X5.frozen;have hkk:=HK.out
 have hsh:=HSH.out;have hq:=HQ.out
 go_upto_region 7 with (fail)
 clear hkk hsh hq;clear xX2 xX5 zX50
 have SX:StN w2 (World.setCell w2 ⟨w1.heap.size,2,none⟩ (.int .u64 Q)) _ _ #[.bool s,.int .u64 0,.int .u64 Q,.int .i64 X] _:=StN.at4 X5 2 (.int .u64 Q)
 replace X2:=X2.s SX;replace XR:=XR.s SX;replace hT:=hT.s SX;replace HB:=Hqs HB SX (by omega);replace X5:=SX.box;clear SX;generalize World.setCell w2 ⟨w1.heap.size,2,none⟩ (.int .u64 Q)=w3 at *;have xX2:=X2.cell
 go_wp2_with fail
 refine(aTz hT m0 m1 HM.out HZ.out).mono ?_;rintro ee w4 ⟨rfl,B⟩;clear xX2;replace XR:=XR.b B;replace X5:=X5.b B;replace HB:=Hqb HB B;clear B;have xX5:=X5.cell;have zX50:=X5.frozen;have ho:=HO.out
 go_upto_region 9 with (fail)
 clear ho;clear xX5 zX50
 have SX:StN w4 (World.setCell w4 ⟨w1.heap.size,2,none⟩ (.int .u64 o)) _ _ #[.bool s,.int .u64 0,.int .u64 o,.int .i64 X] _:=StN.at4 X5 2 (.int .u64 o)
 replace XR:=XR.s SX;replace HB:=Hqs HB SX (by omega);replace X5:=SX.box;clear SX;generalize World.setCell w4 ⟨w1.heap.size,2,none⟩ (.int .u64 o)=w5 at *;have xXR:=XR.cell;have zXR0:=XR.frozen;have xX5:=X5.cell;go_wp2;clear xXR zXR0 xX5;have SX:=StN.mk4 XR (.bool s) (.int .u64 0) (.int .u64 o) (.int .i64 X)
 exact bq (v:= .agg #[.bool s,.int .u64 0,.int .u64 o,.int .i64 X]) (by simp[results,Tryz.results229,go_sem,SX.box.cell]) rfl ⟨0,o,rfl,⟨by decide,by decide,ob.1,ob.2,by rw[HV.out,HOO.out];omega⟩,(SX.below HB.out (by omega))⟩
theorem aMoved{w:World}{s:Bool}{M E N X:Int}{n:Nat}(hT:Tb w)(h0:9223372036854775808<=M)(hM:LQ M)(hN:(n:Int)=N)(hX:E+N=X)(b1: -2000000<=E)(b2:E<=2000000)(n1:1<=n)(n3:n<=4000000):Calls Tryz.prog 229 #[VQ 1 s M E,.int .i64 N] w (PMv w s (mvd M n) X):=by
 delta VQ
 by_cases n2:n<=64
 ·exact moved_low hT h0 hM hN hX b1 b2 n1 n2
 ·by_cases hr:M%2^(n-64)=0
  ·exact moved_even hT h0 hM hN hX b1 b2 n1 (by omega) n3 hr
  ·exact moved_odd hT h0 hM hN hX b1 b2 n1 (by omega) n3 hr
theorem order_lt{w:World}{s1 s2:Bool}{M1 M2 E1 E2:Int}(h:E1 < E2):Calls Tryz.prog 228 #[VQ 1 s1 M1 E1,VQ 1 s2 M2 E2] w fun e w'=>e= .returned (.tuple #[.agg #[.int .i64 1,.bool s2,.int .u64 M2,.int .i64 E2],.agg #[.int .i64 1,.bool s1,.int .u64 M1,.int .i64 E1]])/\Below w.heap.size w w':=by
 delta VQ
 go_enter Tryz.func228,Tryz.ntmps228
 go_upto_region 1 with (fail)
 generalize hW1:(((w.alloc _).alloc _).alloc _).alloc _=w1 at *;obtain⟨X2,X3,X4,X5,HB⟩:=Bo.en4 hW1;clear hW1;have xX2:=X2.cell;have xX3:=X3.cell
 go_upto_region 2 with (fail)
 clear xX2 xX3;refine Jo.rl (w.heap.size+1+1) #[.int .i64 1,.bool s2,.int .u64 M2,.int .i64 E2] 24 [0,1,2] [some 25,some 26,none,none] [[],[],[0],[]] 4 1 [Jo.LFact.eq (.agg #[.int .i64 1,.bool s2,.int .u64 M2,.int .i64 E2]),Jo.LFact.eq (.agg #[.int .i64 1,.bool s1,.int .u64 M1,.int .i64 E1]),Jo.LFact.done,Jo.LFact.any] (by kernel_rfl) (by kernel_rfl) (by decide) rfl ?_ ?_
 ·refine Jo.lm rfl ?_ ?_
  ·rintro wj hJ K hK;simp only[Jo.z]at hK|-;replace X3:=X3.off (by omega) hJ;have xX3:=X3.cell;go_simp;exact hK.out _ _ rfl (Jo.Off.refl _ _ _ _)
  refine Jo.lm rfl ?_ ?_
  ·rintro wj hJ K hK;simp only[Jo.z]at hK|-;replace X2:=X2.off (by omega) hJ;have xX2:=X2.cell;go_simp;exact hK.out _ _ rfl (Jo.Off.refl _ _ _ _)
  refine Jo.lm rfl ?_ ?_
  ·rintro wj hJ _ rfl K hK;simp only[Jo.z]at hK|-
   obtain⟨v0,v1,v2,v3,XO⟩:∃v0 v1 v2 v3,Bo wj (w.heap.size+1+1) #[v0,v1,v2,v3] 24:=by
    rcases hJ.own with e | e
    ·exact⟨_,_,_,_,X4.keep e⟩
    ·exact⟨_,_,_,_,e⟩
   have y0:=XO.a 0 (v0) rfl;have u0:=XO.frozen 0;have y1:=XO.a 1 (v1) rfl;have u1:=XO.frozen 1;have y2:=XO.a 2 (v2) rfl;have u2:=XO.frozen 2;have y3:=XO.a 3 (v3) rfl;have u3:=XO.frozen 3;go_simp;have SX:=StN.t4 XO 1 s2 M2 E2;exact hK.out undef _ SX.box (Jo.Off.of_stn SX)
  exact jo
 rintro w2 hJ _ rfl _ rfl u2 d2 -;simp only[Jo.z];replace HB:=ie (hJ.below HB.out (by omega) X4.lt);replace X5:=X5.off (by omega) hJ
 replace X4:Bo w2 (w.heap.size+1+1) #[.int .i64 1,.bool s2,.int .u64 M2,.int .i64 E2] 24:=d2
 have xX5:=X5.cell;have zX50:=X5.frozen
 refine jn 3 fun K hK=>?_
 go_simp;refine hK.out _ _ ?_;clear hK K xX5 zX50;generalize hS:(((w2.setCell _ _).setCell _ _).setCell _ _).setCell _ _=w3 at *;have SX:=StN.of4 X5 hS;replace X4:=X4.s SX;replace HB:=Hqs HB SX (by omega);replace X5:=SX.box;clear SX hS;refine jd ?_;go_wp2;exact bq (v:= .tuple #[.agg #[.int .i64 1,.bool s2,.int .u64 M2,.int .i64 E2],.agg #[.int .i64 1,.bool s1,.int .u64 M1,.int .i64 E1]]) (by simp[results,Tryz.results228,go_sem,X4.cell,X5.cell]) rfl ⟨rfl,HB.out⟩
theorem order_eqlt{w:World}{s1 s2:Bool}{M1 M2 E1 E2:Int}(h:E1=E2)(hm:M1 < M2):Calls Tryz.prog 228 #[VQ 1 s1 M1 E1,VQ 1 s2 M2 E2] w fun e w'=>e= .returned (.tuple #[.agg #[.int .i64 1,.bool s2,.int .u64 M2,.int .i64 E2],.agg #[.int .i64 1,.bool s1,.int .u64 M1,.int .i64 E1]])/\Below w.heap.size w w':=by
 delta VQ
 subst h
 have h1:¬E1 < E1:=by omega
 go_enter Tryz.func228,Tryz.ntmps228
 go_upto_region 1 with (fail)
 generalize hW1:(((w.alloc _).alloc _).alloc _).alloc _=w1 at *;obtain⟨X2,X3,X4,X5,HB⟩:=Bo.en4 hW1;clear hW1;have xX2:=X2.cell;have xX3:=X3.cell
 go_upto_region 2 with (fail)
 clear xX2 xX3;refine Jo.rl (w.heap.size+1+1) #[.int .i64 1,.bool s2,.int .u64 M2,.int .i64 E1] 24 [0,1,2] [some 25,some 26,none,none] [[],[],[0],[]] 4 1 [Jo.LFact.eq (.agg #[.int .i64 1,.bool s2,.int .u64 M2,.int .i64 E1]),Jo.LFact.eq (.agg #[.int .i64 1,.bool s1,.int .u64 M1,.int .i64 E1]),Jo.LFact.done,Jo.LFact.any] (by kernel_rfl) (by kernel_rfl) (by decide) rfl ?_ ?_
 ·refine Jo.lm rfl ?_ ?_
  ·rintro wj hJ K hK;simp only[Jo.z]at hK|-;replace X3:=X3.off (by omega) hJ;have xX3:=X3.cell;go_simp;exact hK.out _ _ rfl (Jo.Off.refl _ _ _ _)
  refine Jo.lm rfl ?_ ?_
  ·rintro wj hJ K hK;simp only[Jo.z]at hK|-;replace X2:=X2.off (by omega) hJ;have xX2:=X2.cell;go_simp;exact hK.out _ _ rfl (Jo.Off.refl _ _ _ _)
  refine Jo.lm rfl ?_ ?_
  ·rintro wj hJ _ rfl K hK;simp only[Jo.z]at hK|-
   obtain⟨v0,v1,v2,v3,XO⟩:∃v0 v1 v2 v3,Bo wj (w.heap.size+1+1) #[v0,v1,v2,v3] 24:=by
    rcases hJ.own with e | e
    ·exact⟨_,_,_,_,X4.keep e⟩
    ·exact⟨_,_,_,_,e⟩
   have y0:=XO.a 0 (v0) rfl;have u0:=XO.frozen 0;have y1:=XO.a 1 (v1) rfl;have u1:=XO.frozen 1;have y2:=XO.a 2 (v2) rfl;have u2:=XO.frozen 2;have y3:=XO.a 3 (v3) rfl;have u3:=XO.frozen 3;go_simp;have SX:=StN.t4 XO 1 s2 M2 E1;exact hK.out undef _ SX.box (Jo.Off.of_stn SX)
  exact jo
 rintro w2 hJ _ rfl _ rfl u2 d2 -;simp only[Jo.z];replace HB:=ie (hJ.below HB.out (by omega) X4.lt);replace X5:=X5.off (by omega) hJ
 replace X4:Bo w2 (w.heap.size+1+1) #[.int .i64 1,.bool s2,.int .u64 M2,.int .i64 E1] 24:=d2
 have xX5:=X5.cell;have zX50:=X5.frozen
 refine jn 3 fun K hK=>?_
 go_simp;refine hK.out _ _ ?_;clear hK K xX5 zX50;generalize hS:(((w2.setCell _ _).setCell _ _).setCell _ _).setCell _ _=w3 at *;have SX:=StN.of4 X5 hS;replace X4:=X4.s SX;replace HB:=Hqs HB SX (by omega);replace X5:=SX.box;clear SX hS;refine jd ?_;go_wp2;exact bq (v:= .tuple #[.agg #[.int .i64 1,.bool s2,.int .u64 M2,.int .i64 E1],.agg #[.int .i64 1,.bool s1,.int .u64 M1,.int .i64 E1]]) (by simp[results,Tryz.results228,go_sem,X4.cell,X5.cell]) rfl ⟨rfl,HB.out⟩
theorem order_eqge{w:World}{s1 s2:Bool}{M1 M2 E1 E2:Int}(h:E1=E2)(hm:¬M1 < M2):Calls Tryz.prog 228 #[VQ 1 s1 M1 E1,VQ 1 s2 M2 E2] w fun e w'=>e= .returned (.tuple #[.agg #[.int .i64 1,.bool s1,.int .u64 M1,.int .i64 E1],.agg #[.int .i64 1,.bool s2,.int .u64 M2,.int .i64 E2]])/\Below w.heap.size w w':=by
 delta VQ
 subst h
 have h1:¬E1 < E1:=by omega
 go_enter Tryz.func228,Tryz.ntmps228
 go_upto_region 1 with (fail)
 generalize hW1:(((w.alloc _).alloc _).alloc _).alloc _=w1 at *;obtain⟨X2,X3,X4,X5,HB⟩:=Bo.en4 hW1;clear hW1;have xX2:=X2.cell;have xX3:=X3.cell
 go_upto_region 3 with (fail)
 clear xX2 xX3;refine Jo.rl (w.heap.size+1+1) #[.int .i64 1,.bool s1,.int .u64 M1,.int .i64 E1] 24 [0,1,2] [some 27,some 28,none,none] [[],[],[0],[]] 4 1 [Jo.LFact.eq (.agg #[.int .i64 1,.bool s1,.int .u64 M1,.int .i64 E1]),Jo.LFact.eq (.agg #[.int .i64 1,.bool s2,.int .u64 M2,.int .i64 E1]),Jo.LFact.done,Jo.LFact.any] (by kernel_rfl) (by kernel_rfl) (by decide) rfl ?_ ?_
 ·refine Jo.lm rfl ?_ ?_
  ·rintro wj hJ K hK;simp only[Jo.z]at hK|-;replace X2:=X2.off (by omega) hJ;have xX2:=X2.cell;go_simp;exact hK.out _ _ rfl (Jo.Off.refl _ _ _ _)
  refine Jo.lm rfl ?_ ?_
  ·rintro wj hJ K hK;simp only[Jo.z]at hK|-;replace X3:=X3.off (by omega) hJ;have xX3:=X3.cell;go_simp;exact hK.out _ _ rfl (Jo.Off.refl _ _ _ _)
  refine Jo.lm rfl ?_ ?_
  ·rintro wj hJ _ rfl K hK;simp only[Jo.z]at hK|-
   obtain⟨v0,v1,v2,v3,XO⟩:∃v0 v1 v2 v3,Bo wj (w.heap.size+1+1) #[v0,v1,v2,v3] 24:=by
    rcases hJ.own with e | e
    ·exact⟨_,_,_,_,X4.keep e⟩
    ·exact⟨_,_,_,_,e⟩
   have y0:=XO.a 0 (v0) rfl;have u0:=XO.frozen 0;have y1:=XO.a 1 (v1) rfl;have u1:=XO.frozen 1;have y2:=XO.a 2 (v2) rfl;have u2:=XO.frozen 2;have y3:=XO.a 3 (v3) rfl;have u3:=XO.frozen 3;go_simp;have SX:=StN.t4 XO 1 s1 M1 E1;exact hK.out undef _ SX.box (Jo.Off.of_stn SX)
  exact jo
 rintro w2 hJ _ rfl _ rfl u2 d2 -;simp only[Jo.z];replace HB:=ie (hJ.below HB.out (by omega) X4.lt);replace X5:=X5.off (by omega) hJ
 replace X4:Bo w2 (w.heap.size+1+1) #[.int .i64 1,.bool s1,.int .u64 M1,.int .i64 E1] 24:=d2
 have xX5:=X5.cell;have zX50:=X5.frozen
 refine jn 3 fun K hK=>?_
 go_simp;refine hK.out _ _ ?_;clear hK K xX5 zX50;generalize hS:(((w2.setCell _ _).setCell _ _).setCell _ _).setCell _ _=w3 at *;have SX:=StN.of4 X5 hS;replace X4:=X4.s SX;replace HB:=Hqs HB SX (by omega);replace X5:=SX.box;clear SX hS;refine jd ?_;go_wp2;exact bq (v:= .tuple #[.agg #[.int .i64 1,.bool s1,.int .u64 M1,.int .i64 E1],.agg #[.int .i64 1,.bool s2,.int .u64 M2,.int .i64 E1]]) (by simp[results,Tryz.results228,go_sem,X4.cell,X5.cell]) rfl ⟨rfl,HB.out⟩
theorem order_gt{w:World}{s1 s2:Bool}{M1 M2 E1 E2:Int}(h:E2 < E1):Calls Tryz.prog 228 #[VQ 1 s1 M1 E1,VQ 1 s2 M2 E2] w fun e w'=>e= .returned (.tuple #[.agg #[.int .i64 1,.bool s1,.int .u64 M1,.int .i64 E1],.agg #[.int .i64 1,.bool s2,.int .u64 M2,.int .i64 E2]])/\Below w.heap.size w w':=by
 delta VQ
 have h1:¬E1 < E2:=by omega
 have h2:(E1==E2)=false:=by
  have:E1≠E2:=by omega
  simpa using this
 go_enter Tryz.func228,Tryz.ntmps228
 go_upto_region 1 with (fail)
 generalize hW1:(((w.alloc _).alloc _).alloc _).alloc _=w1 at *;obtain⟨X2,X3,X4,X5,HB⟩:=Bo.en4 hW1;clear hW1;have xX2:=X2.cell;have xX3:=X3.cell
 go_upto_region 3 with (fail)
 clear xX2 xX3;refine Jo.rl (w.heap.size+1+1) #[.int .i64 1,.bool s1,.int .u64 M1,.int .i64 E1] 24 [0,1,2] [some 27,some 28,none,none] [[],[],[0],[]] 4 1 [Jo.LFact.eq (.agg #[.int .i64 1,.bool s1,.int .u64 M1,.int .i64 E1]),Jo.LFact.eq (.agg #[.int .i64 1,.bool s2,.int .u64 M2,.int .i64 E2]),Jo.LFact.done,Jo.LFact.any] (by kernel_rfl) (by kernel_rfl) (by decide) rfl ?_ ?_
 ·refine Jo.lm rfl ?_ ?_
  ·rintro wj hJ K hK;simp only[Jo.z]at hK|-;replace X2:=X2.off (by omega) hJ;have xX2:=X2.cell;go_simp;exact hK.out _ _ rfl (Jo.Off.refl _ _ _ _)
  refine Jo.lm rfl ?_ ?_
  ·rintro wj hJ K hK;simp only[Jo.z]at hK|-;replace X3:=X3.off (by omega) hJ;have xX3:=X3.cell;go_simp;exact hK.out _ _ rfl (Jo.Off.refl _ _ _ _)
  refine Jo.lm rfl ?_ ?_
  ·rintro wj hJ _ rfl K hK;simp only[Jo.z]at hK|-
   obtain⟨v0,v1,v2,v3,XO⟩:∃v0 v1 v2 v3,Bo wj (w.heap.size+1+1) #[v0,v1,v2,v3] 24:=by
    rcases hJ.own with e | e
    ·exact⟨_,_,_,_,X4.keep e⟩
    ·exact⟨_,_,_,_,e⟩
   have y0:=XO.a 0 (v0) rfl;have u0:=XO.frozen 0;have y1:=XO.a 1 (v1) rfl;have u1:=XO.frozen 1;have y2:=XO.a 2 (v2) rfl;have u2:=XO.frozen 2;have y3:=XO.a 3 (v3) rfl;have u3:=XO.frozen 3;go_simp;have SX:=StN.t4 XO 1 s1 M1 E1;exact hK.out undef _ SX.box (Jo.Off.of_stn SX)
  exact jo
 rintro w2 hJ _ rfl _ rfl u2 d2 -;simp only[Jo.z];replace HB:=ie (hJ.below HB.out (by omega) X4.lt);replace X5:=X5.off (by omega) hJ
 replace X4:Bo w2 (w.heap.size+1+1) #[.int .i64 1,.bool s1,.int .u64 M1,.int .i64 E1] 24:=d2
 have xX5:=X5.cell;have zX50:=X5.frozen
 refine jn 3 fun K hK=>?_
 go_simp;refine hK.out _ _ ?_;clear hK K xX5 zX50;generalize hS:(((w2.setCell _ _).setCell _ _).setCell _ _).setCell _ _=w3 at *;have SX:=StN.of4 X5 hS;replace X4:=X4.s SX;replace HB:=Hqs HB SX (by omega);replace X5:=SX.box;clear SX hS;refine jd ?_;go_wp2;exact bq (v:= .tuple #[.agg #[.int .i64 1,.bool s1,.int .u64 M1,.int .i64 E1],.agg #[.int .i64 1,.bool s2,.int .u64 M2,.int .i64 E2]]) (by simp[results,Tryz.results228,go_sem,X4.cell,X5.cell]) rfl ⟨rfl,HB.out⟩
theorem wd_of{s:Bool}{H L e V:Int}{f:Bool->Int}(hH:0<=H)(hH2:LQ H)(hL:0<=L)(hL2:LQ L)(hV:H*18446744073709551616+L=V)(e1: -2900000<=e)(e2:e<=2900000)(h:∀up,rnd up (mk (sgi s V) (e-64)).1 (mk (sgi s V) (e-64)).2=f up):Wd s H L e f:=by
 obtain⟨a,rfl⟩:=Int.eq_ofNat_of_zero_le hH;obtain⟨b,rfl⟩:=Int.eq_ofNat_of_zero_le hL
 refine⟨a,b,by omega,by omega,rfl,rfl,e1,e2,fun up=>?_⟩
 have e:((a*18446744073709551616+b:Nat):Int)=V:=by omega
 rw[e];exact h up
theorem add_words{H1 L1 H2 L2 V1 V2:Int}(h1:0<=H1/\H1 < 18446744073709551616/\0<=L1/\L1 < 18446744073709551616/\H1*18446744073709551616+L1=V1)(h2:0<=H2/\H2 < 18446744073709551616/\0<=L2/\L2 < 18446744073709551616/\H2*18446744073709551616+L2=V2)(h:V1+V2 < 340282366920938463463374607431768211456):
  ∃S c T d,(L1+L2+0)%18446744073709551616=S/\(L1+L2+0) /18446744073709551616=c/\(H1+H2+c)%18446744073709551616=T/\(H1+H2+c) /18446744073709551616=d/\0<=c/\c<=1/\0<=S/\S < 18446744073709551616/\0<=T/\T < 18446744073709551616/\T*18446744073709551616+S=V1+V2:=by
 refine⟨_,_,_,_,rfl,rfl,rfl,rfl,?_⟩
 omega
theorem sub_words{H1 L1 H2 L2 V1 V2:Int}(h1:0<=H1/\H1 < 18446744073709551616/\0<=L1/\L1 < 18446744073709551616/\H1*18446744073709551616+L1=V1)(h2:0<=H2/\H2 < 18446744073709551616/\0<=L2/\L2 < 18446744073709551616/\H2*18446744073709551616+L2=V2)(h:0<=V1-V2):
  ∃S c T d,(L1-L2-0)%18446744073709551616=S/\(if L1 < L2+0 then (1:Int)else 0)=c/\(H1-H2-c)%18446744073709551616=T/\(if H1 < H2+c then (1:Int)else 0)=d/\0<=c/\c<=1/\0<=S/\S < 18446744073709551616/\0<=T/\T < 18446744073709551616/\T*18446744073709551616+S=V1-V2:=by
 by_cases q:L1 < L2+0
 ·exact⟨_,1,_,_,rfl,if_pos q,rfl,rfl,by omega,by omega,by omega,by omega,by omega,by omega,by omega⟩
 ·exact⟨_,0,_,_,rfl,if_neg q,rfl,rfl,by omega,by omega,by omega,by omega,by omega,by omega,by omega⟩
theorem sum_lt{w:World}{s1 s2:Bool}{M1 M2 E1 E2 x y:Int}(hT:Tb w)(q1:Fq 1 s1 M1 E1 x)(q2:Fq 1 s2 M2 E2 y)(h:E1 < E2):Calls Tryz.prog 178 #[VQ 1 s1 M1 E1,VQ 1 s2 M2 E2] w (PW6 w fun up=>addp up x y):=by
 delta VQ
 obtain⟨a1,a2,a3,a4,_⟩:=fq_vr q1;obtain⟨b1,b2,b3,b4,_⟩:=fq_vr q2;have HO:=ie (h);obtain⟨n,hn⟩:∃n:Nat,(n:Int)=E2-E1+1:=⟨(E2-E1+1).toNat,by omega⟩
 have hsw:∀(S:Int) up,S=M2*9223372036854775808+sgi (s2 !=s1) (mvd M1 n)->0<=S/\S < 340282366920938463463374607431768211456/\rnd up (mk (sgi s2 S) (E2+1-64)).1 (mk (sgi s2 S) (E2+1-64)).2=addp up x y:=fun S up hS=>by
  obtain⟨u1,u2,u3⟩:=sum_wide up q2 q1 (by omega) hn hS;refine⟨u1,u2,?_⟩
  rw[show E2+1-64=E2-63 by omega,u3]
  exact addp_comm up
 have HSW:=ie hsw;obtain⟨N,hN⟩:∃N,(n:Int)=N:=⟨_,rfl⟩;obtain⟨D,hD⟩:∃D,E2-E1=D:=⟨_,rfl⟩
 have n1:1<=n:=by omega
 have n3:n<=4000000:=by omega
 have HN:=ie hN
 have HD:=ie (show IntKind.i64.wrap (E2-E1)=D by rw[hD];exact IntWalk.i64_in _ (by omega))
 have HD2:=ie (show IntKind.i64.wrap (D+1)=N by rw[show D+1=N by omega];exact IntWalk.i64_in _ (by omega))
 obtain⟨Y,hY⟩:∃Y,E1+N=Y:=⟨_,rfl⟩;have HY:=ie hY;obtain⟨Z,hZ⟩:∃Z,E2+1=Z:=⟨_,rfl⟩;have HZ:=ie hZ
 have z1: -2900000<=Z:=by omega
 have z2:Z<=2900000:=by omega
 have v1:mvd M2 1=M2*9223372036854775808:=by
  unfold mvd
  rw[if_pos (by decide)]
  rfl
 have HV1:=ie v1
 have g1:9223372036854775808<=M2:=by omega
 have g2:M2 < 18446744073709551616:=by omega
 have g3: -2000000<=E2:=by omega
 have g4:E2<=2000000:=by omega
 have k1:9223372036854775808<=M1:=by omega
 have k2:M1 < 18446744073709551616:=by omega
 have k3: -2000000<=E1:=by omega
 have k4:E1<=2000000:=by omega
 clear hn hN hD hY hZ v1 hsw h q1 q2 a1 a2 a3 a4 b1 b2 b3 b4
 go_enter Tryz.func178,Tryz.ntmps178
 go_upto_region 1 with (fail)
 generalize hW1:((w.alloc _).alloc _).alloc _=w1 at *;obtain⟨X2,X3,XR,HB⟩:=Bo.en3 hW1;replace hT:=hT.below HB.out;clear hW1;have xX2:=X2.cell;have xX3:=X3.cell
 go_wp2_with fail
 refine(order_lt HO.out).mono ?_;rintro ee w2 ⟨rfl,B⟩;clear xX2 xX3;replace XR:=XR.b B;replace hT:=hT.b B;replace HB:=Hqb HB B;clear B
 go_upto_region 2 with (fail)
 clear X2 X3
 have hsz:(World.alloc w2 (.cells #[.int .i64 1,.bool s2,.int .u64 M2,.int .i64 E2] 24)).heap.size=w2.heap.size+1:=by simp
 have nX5XR:=XR.lt;have BX:=bel1 w2 (.cells #[.int .i64 1,.bool s2,.int .u64 M2,.int .i64 E2] 24);replace XR:=XR.b BX;replace hT:=hT.b BX;replace HB:=ie (bt HB.out BX);have X5:=Bo.new w2 #[.int .i64 1,.bool s2,.int .u64 M2,.int .i64 E2] 24
 generalize hWn:World.alloc w2 (.cells #[.int .i64 1,.bool s2,.int .u64 M2,.int .i64 E2] 24)=w3 at *;clear hWn;have nX6XR:=XR.lt;have nX6X5:=X5.lt;generalize hWn:w3.alloc _=w4 at *;obtain⟨X6,BW⟩:=Bo.nw hWn;clear hWn;replace XR:=XR.b BW;replace X5:=X5.b BW;replace hT:=hT.b BW;replace HB:=Hqb HB BW;clear BW;rw[hsz]at X6 nX6X5 nX6XR;clear hsz
 have xX5:=X5.cell
 go_wp2_with fail
 refine(aMoved (n:=1) (s:=s2) hT g1 g2 (by rfl) HZ.out g3 g4 (by decide) (by decide)).mono ?_;rintro ee w5 ⟨H1,L1,rfl,p1,B⟩;clear xX5;replace XR:=XR.b B;replace X5:=X5.b B;replace X6:=X6.b B;replace hT:=hT.b B;replace HB:=Hqb HB B;clear B;rw[HV1.out]at p1
 go_upto_region 3 with (fail)
 have nX7XR:=XR.lt;have nX7X5:=X5.lt;have nX7X6:=X6.lt;generalize hWn:w5.alloc _=w6 at *;obtain⟨X7,BW⟩:=Bo.nw hWn;clear hWn;replace XR:=XR.b BW;replace X5:=X5.b BW;replace X6:=X6.b BW;replace hT:=hT.b BW;replace HB:=Hqb HB BW;clear BW;have xX5:=X5.cell;have xX6:=X6.cell;have hd:=HD.out
 have hd2:=HD2.out
 go_wp2_with fail
 refine(aMoved (s:=s1) hT k1 k2 HN.out HY.out k3 k4 n1 n3).mono ?_;rintro ee w7 ⟨H2,L2,rfl,p2,B⟩;clear xX5 xX6;replace XR:=XR.b B;replace X5:=X5.b B;replace X6:=X6.b B;replace X7:=X7.b B;replace HB:=Hqb HB B;clear B;clear hd hd2
 go_upto_region 5 with (fail)
 have nX8XR:=XR.lt;have nX8X5:=X5.lt;have nX8X6:=X6.lt;have nX8X7:=X7.lt;generalize hWn:w7.alloc _=w8 at *;obtain⟨X8,BW⟩:=Bo.nw hWn;clear hWn;replace XR:=XR.b BW;replace X5:=X5.b BW;replace X6:=X6.b BW;replace X7:=X7.b BW;replace HB:=Hqb HB BW;clear BW
 by_cases hs:s2=s1
 ·subst hs
  have hxor:(s2 !=s2)=false:=by cases s2 <;> rfl
  have hswv:=HSW.out (M2*9223372036854775808+mvd M1 n);rw[hxor,wsg_f]at hswv;have hb:=(hswv true rfl).2.1;obtain⟨S,c,T,d,f1,f2,f3,f4,c0,c1,o1,o2,o3,o4,o5⟩:=add_words p1 p2 hb
  have ha1:=fun W:World=>aAdd64 W p1.2.2.1 p2.2.2.1 (by decide) (by decide) f1 f2
  have ha2:=fun W:World=>aAdd64 W p1.1 p2.1 c0 c1 f3 f4
  have OO:=ie (And.intro o5 hswv)
  clear f1 f2 f3 f4 p1 p2 hb hswv o5;have xX5:=X5.cell;have xX6:=X6.cell;have xX7:=X7.cell;have zX70:=X7.frozen;have xX8:=X8.cell
  go_upto_region 7 with (simp only[ha1])
  clear xX5 xX6 xX7 zX70 xX8
  have SX:StN w8 (World.setCell w8 ⟨w5.heap.size,2,none⟩ (.int .u64 S)) _ _ #[.bool s2,.int .u64 H1,.int .u64 S,.int .i64 Z] _:=StN.at4 X7 2 (.int .u64 S)
  replace XR:=XR.s SX;replace X5:=X5.s SX;replace X6:=X6.s SX;replace X8:=X8.s SX;replace HB:=Hqs HB SX (by omega);replace X7:=SX.box;clear SX;generalize World.setCell w8 ⟨w5.heap.size,2,none⟩ (.int .u64 S)=w9 at *;have xX7:=X7.cell;have zX70:=X7.frozen;have xX8:=X8.cell
  go_upto_region 10 with (simp only[ha2])
  clear xX7 zX70 xX8
  have SX:StN w9 (World.setCell w9 ⟨w5.heap.size,1,none⟩ (.int .u64 T)) _ _ #[.bool s2,.int .u64 T,.int .u64 S,.int .i64 Z] _:=StN.at4 X7 1 (.int .u64 T)
  replace XR:=XR.s SX;replace X5:=X5.s SX;replace X6:=X6.s SX;replace X8:=X8.s SX;replace HB:=Hqs HB SX (by omega);replace X7:=SX.box;clear SX;generalize World.setCell w9 ⟨w5.heap.size,1,none⟩ (.int .u64 T)=wA at *;have xXR:=XR.cell;have zXR0:=XR.frozen;have xX7:=X7.cell
  go_wp2;clear xXR zXR0 xX7;have SX:=StN.mk4 XR (.bool s2) (.int .u64 T) (.int .u64 S) (.int .i64 Z)
  exact bq (v:= .agg #[.bool s2,.int .u64 T,.int .u64 S,.int .i64 Z]) (by simp[results,Tryz.results178,go_sem,SX.box.cell]) rfl ⟨_,_,_,_,rfl,wd_of o3 o4 o1 o2 OO.out.1 z1 z2 fun up=>by rw[<-HZ.out];exact(OO.out.2 up (by first | rfl | trivial)).2.2,(SX.below HB.out (by omega))⟩
 ·have hxor:(s2 !=s1)=true:=by cases s2 <;> cases s1 <;> first | rfl | exact absurd rfl hs
  have hne:(s2==s1)=false:=by cases s2 <;> cases s1 <;> first | rfl | exact absurd rfl hs
  have hswv:=HSW.out (M2*9223372036854775808-mvd M1 n);rw[hxor,wsg_t]at hswv;have hb:=(hswv true (by omega)).1;obtain⟨S,c,T,d,f1,f2,f3,f4,c0,c1,o1,o2,o3,o4,o5⟩:=sub_words p1 p2 hb
  have ha1:=fun W:World=>aSub64 W p1.2.2.1 p1.2.2.2.1 p2.2.2.1 p2.2.2.2.1 (by decide) (by decide) f1 f2
  have ha2:=fun W:World=>aSub64 W p1.1 p1.2.1 p2.1 p2.2.1 c0 c1 f3 f4
  have OO:=ie (And.intro o5 hswv)
  clear f1 f2 f3 f4 p1 p2 hb hswv o5;have xX5:=X5.cell;have xX6:=X6.cell;have xX7:=X7.cell;have zX70:=X7.frozen;have xX8:=X8.cell
  go_upto_region 9 with (simp only[ha1])
  clear xX5 xX6 xX7 zX70 xX8
  have SX:StN w8 (World.setCell w8 ⟨w5.heap.size,2,none⟩ (.int .u64 S)) _ _ #[.bool s2,.int .u64 H1,.int .u64 S,.int .i64 Z] _:=StN.at4 X7 2 (.int .u64 S)
  replace XR:=XR.s SX;replace X8:=X8.s SX;replace HB:=Hqs HB SX (by omega);replace X7:=SX.box;clear SX;generalize World.setCell w8 ⟨w5.heap.size,2,none⟩ (.int .u64 S)=w9 at *;have xX7:=X7.cell;have zX70:=X7.frozen;have xX8:=X8.cell
  go_upto_region 10 with (simp only[ha2])
  clear xX7 zX70 xX8
  have SX:StN w9 (World.setCell w9 ⟨w5.heap.size,1,none⟩ (.int .u64 T)) _ _ #[.bool s2,.int .u64 T,.int .u64 S,.int .i64 Z] _:=StN.at4 X7 1 (.int .u64 T)
  replace XR:=XR.s SX;replace HB:=Hqs HB SX (by omega);replace X7:=SX.box;clear SX;generalize World.setCell w9 ⟨w5.heap.size,1,none⟩ (.int .u64 T)=wA at *;have xXR:=XR.cell;have zXR0:=XR.frozen;have xX7:=X7.cell;go_wp2;clear xXR zXR0 xX7;have SX:=StN.mk4 XR (.bool s2) (.int .u64 T) (.int .u64 S) (.int .i64 Z)
  exact bq (v:= .agg #[.bool s2,.int .u64 T,.int .u64 S,.int .i64 Z]) (by simp[results,Tryz.results178,go_sem,SX.box.cell]) rfl ⟨_,_,_,_,rfl,wd_of o3 o4 o1 o2 OO.out.1 z1 z2 fun up=>by rw[<-HZ.out];exact(OO.out.2 up (by omega)).2.2,(SX.below HB.out (by omega))⟩
theorem sum_eqlt{w:World}{s1 s2:Bool}{M1 M2 E1 E2 x y:Int}(hT:Tb w)(q1:Fq 1 s1 M1 E1 x)(q2:Fq 1 s2 M2 E2 y)(h:E1=E2)(hm:M1 < M2):Calls Tryz.prog 178 #[VQ 1 s1 M1 E1,VQ 1 s2 M2 E2] w (PW6 w fun up=>addp up x y):=by
 delta VQ
 obtain⟨a1,a2,a3,a4,_⟩:=fq_vr q1;obtain⟨b1,b2,b3,b4,_⟩:=fq_vr q2
 have HO:=ie (And.intro h hm)
 obtain⟨n,hn⟩:∃n:Nat,(n:Int)=E2-E1+1:=⟨(E2-E1+1).toNat,by omega⟩
 have hsw:∀(S:Int) up,S=M2*9223372036854775808+sgi (s2 !=s1) (mvd M1 n)->0<=S/\S < 340282366920938463463374607431768211456/\rnd up (mk (sgi s2 S) (E2+1-64)).1 (mk (sgi s2 S) (E2+1-64)).2=addp up x y:=fun S up hS=>by
  obtain⟨u1,u2,u3⟩:=sum_wide up q2 q1 (by omega) hn hS;refine⟨u1,u2,?_⟩
  rw[show E2+1-64=E2-63 by omega,u3]
  exact addp_comm up
 have HSW:=ie hsw;obtain⟨N,hN⟩:∃N,(n:Int)=N:=⟨_,rfl⟩;obtain⟨D,hD⟩:∃D,E2-E1=D:=⟨_,rfl⟩
 have n1:1<=n:=by omega
 have n3:n<=4000000:=by omega
 have HN:=ie hN
 have HD:=ie (show IntKind.i64.wrap (E2-E1)=D by rw[hD];exact IntWalk.i64_in _ (by omega))
 have HD2:=ie (show IntKind.i64.wrap (D+1)=N by rw[show D+1=N by omega];exact IntWalk.i64_in _ (by omega))
 obtain⟨Y,hY⟩:∃Y,E1+N=Y:=⟨_,rfl⟩;have HY:=ie hY;obtain⟨Z,hZ⟩:∃Z,E2+1=Z:=⟨_,rfl⟩;have HZ:=ie hZ
 have z1: -2900000<=Z:=by omega
 have z2:Z<=2900000:=by omega
 have v1:mvd M2 1=M2*9223372036854775808:=by
  unfold mvd
  rw[if_pos (by decide)]
  rfl
 have HV1:=ie v1
 have g1:9223372036854775808<=M2:=by omega
 have g2:M2 < 18446744073709551616:=by omega
 have g3: -2000000<=E2:=by omega
 have g4:E2<=2000000:=by omega
 have k1:9223372036854775808<=M1:=by omega
 have k2:M1 < 18446744073709551616:=by omega
 have k3: -2000000<=E1:=by omega
 have k4:E1<=2000000:=by omega
 clear hn hN hD hY hZ v1 hsw h hm q1 q2 a1 a2 a3 a4 b1 b2 b3 b4
 go_enter Tryz.func178,Tryz.ntmps178
 go_upto_region 1 with (fail)
 generalize hW1:((w.alloc _).alloc _).alloc _=w1 at *;obtain⟨X2,X3,XR,HB⟩:=Bo.en3 hW1;replace hT:=hT.below HB.out;clear hW1;have xX2:=X2.cell;have xX3:=X3.cell
 go_wp2_with fail
 refine(order_eqlt HO.out.1 (by have:=HO.out.2;omega)).mono ?_;rintro ee w2 ⟨rfl,B⟩;clear xX2 xX3;replace XR:=XR.b B;replace hT:=hT.b B;replace HB:=Hqb HB B;clear B
 go_upto_region 2 with (fail)
 clear X2 X3
 have hsz:(World.alloc w2 (.cells #[.int .i64 1,.bool s2,.int .u64 M2,.int .i64 E2] 24)).heap.size=w2.heap.size+1:=by simp
 have nX5XR:=XR.lt;have BX:=bel1 w2 (.cells #[.int .i64 1,.bool s2,.int .u64 M2,.int .i64 E2] 24);replace XR:=XR.b BX;replace hT:=hT.b BX;replace HB:=ie (bt HB.out BX);have X5:=Bo.new w2 #[.int .i64 1,.bool s2,.int .u64 M2,.int .i64 E2] 24
 generalize hWn:World.alloc w2 (.cells #[.int .i64 1,.bool s2,.int .u64 M2,.int .i64 E2] 24)=w3 at *;clear hWn;have nX6XR:=XR.lt;have nX6X5:=X5.lt;generalize hWn:w3.alloc _=w4 at *;obtain⟨X6,BW⟩:=Bo.nw hWn;clear hWn;replace XR:=XR.b BW;replace X5:=X5.b BW;replace hT:=hT.b BW;replace HB:=Hqb HB BW;clear BW;rw[hsz]at X6 nX6X5 nX6XR;clear hsz
 have xX5:=X5.cell
 go_wp2_with fail
 refine(aMoved (n:=1) (s:=s2) hT g1 g2 (by rfl) HZ.out g3 g4 (by decide) (by decide)).mono ?_;rintro ee w5 ⟨H1,L1,rfl,p1,B⟩;clear xX5;replace XR:=XR.b B;replace X5:=X5.b B;replace X6:=X6.b B;replace hT:=hT.b B;replace HB:=Hqb HB B;clear B;rw[HV1.out]at p1
 go_upto_region 3 with (fail)
 have nX7XR:=XR.lt;have nX7X5:=X5.lt;have nX7X6:=X6.lt;generalize hWn:w5.alloc _=w6 at *;obtain⟨X7,BW⟩:=Bo.nw hWn;clear hWn;replace XR:=XR.b BW;replace X5:=X5.b BW;replace X6:=X6.b BW;replace hT:=hT.b BW;replace HB:=Hqb HB BW;clear BW;have xX5:=X5.cell;have xX6:=X6.cell;have hd:=HD.out
 have hd2:=HD2.out
 go_wp2_with fail
 refine(aMoved (s:=s1) hT k1 k2 HN.out HY.out k3 k4 n1 n3).mono ?_;rintro ee w7 ⟨H2,L2,rfl,p2,B⟩;clear xX5 xX6;replace XR:=XR.b B;replace X5:=X5.b B;replace X6:=X6.b B;replace X7:=X7.b B;replace HB:=Hqb HB B;clear B;clear hd hd2
 go_upto_region 5 with (fail)
 have nX8XR:=XR.lt;have nX8X5:=X5.lt;have nX8X6:=X6.lt;have nX8X7:=X7.lt;generalize hWn:w7.alloc _=w8 at *;obtain⟨X8,BW⟩:=Bo.nw hWn;clear hWn;replace XR:=XR.b BW;replace X5:=X5.b BW;replace X6:=X6.b BW;replace X7:=X7.b BW;replace HB:=Hqb HB BW;clear BW
 by_cases hs:s2=s1
 ·subst hs
  have hxor:(s2 !=s2)=false:=by cases s2 <;> rfl
  have hswv:=HSW.out (M2*9223372036854775808+mvd M1 n);rw[hxor,wsg_f]at hswv;have hb:=(hswv true rfl).2.1;obtain⟨S,c,T,d,f1,f2,f3,f4,c0,c1,o1,o2,o3,o4,o5⟩:=add_words p1 p2 hb
  have ha1:=fun W:World=>aAdd64 W p1.2.2.1 p2.2.2.1 (by decide) (by decide) f1 f2
  have ha2:=fun W:World=>aAdd64 W p1.1 p2.1 c0 c1 f3 f4
  have OO:=ie (And.intro o5 hswv)
  clear f1 f2 f3 f4 p1 p2 hb hswv o5;have xX5:=X5.cell;have xX6:=X6.cell;have xX7:=X7.cell;have zX70:=X7.frozen;have xX8:=X8.cell
  go_upto_region 7 with (simp only[ha1])
  clear xX5 xX6 xX7 zX70 xX8
  have SX:StN w8 (World.setCell w8 ⟨w5.heap.size,2,none⟩ (.int .u64 S)) _ _ #[.bool s2,.int .u64 H1,.int .u64 S,.int .i64 Z] _:=StN.at4 X7 2 (.int .u64 S)
  replace XR:=XR.s SX;replace X5:=X5.s SX;replace X6:=X6.s SX;replace X8:=X8.s SX;replace HB:=Hqs HB SX (by omega);replace X7:=SX.box;clear SX;generalize World.setCell w8 ⟨w5.heap.size,2,none⟩ (.int .u64 S)=w9 at *;have xX7:=X7.cell;have zX70:=X7.frozen;have xX8:=X8.cell
  go_upto_region 10 with (simp only[ha2])
  clear xX7 zX70 xX8
  have SX:StN w9 (World.setCell w9 ⟨w5.heap.size,1,none⟩ (.int .u64 T)) _ _ #[.bool s2,.int .u64 T,.int .u64 S,.int .i64 Z] _:=StN.at4 X7 1 (.int .u64 T)
  replace XR:=XR.s SX;replace X5:=X5.s SX;replace X6:=X6.s SX;replace X8:=X8.s SX;replace HB:=Hqs HB SX (by omega);replace X7:=SX.box;clear SX;generalize World.setCell w9 ⟨w5.heap.size,1,none⟩ (.int .u64 T)=wA at *;have xXR:=XR.cell;have zXR0:=XR.frozen;have xX7:=X7.cell
  go_wp2;clear xXR zXR0 xX7;have SX:=StN.mk4 XR (.bool s2) (.int .u64 T) (.int .u64 S) (.int .i64 Z)
  exact bq (v:= .agg #[.bool s2,.int .u64 T,.int .u64 S,.int .i64 Z]) (by simp[results,Tryz.results178,go_sem,SX.box.cell]) rfl ⟨_,_,_,_,rfl,wd_of o3 o4 o1 o2 OO.out.1 z1 z2 fun up=>by rw[<-HZ.out];exact(OO.out.2 up (by first | rfl | trivial)).2.2,(SX.below HB.out (by omega))⟩
 ·have hxor:(s2 !=s1)=true:=by cases s2 <;> cases s1 <;> first | rfl | exact absurd rfl hs
  have hne:(s2==s1)=false:=by cases s2 <;> cases s1 <;> first | rfl | exact absurd rfl hs
  have hswv:=HSW.out (M2*9223372036854775808-mvd M1 n);rw[hxor,wsg_t]at hswv;have hb:=(hswv true (by omega)).1;obtain⟨S,c,T,d,f1,f2,f3,f4,c0,c1,o1,o2,o3,o4,o5⟩:=sub_words p1 p2 hb
  have ha1:=fun W:World=>aSub64 W p1.2.2.1 p1.2.2.2.1 p2.2.2.1 p2.2.2.2.1 (by decide) (by decide) f1 f2
  have ha2:=fun W:World=>aSub64 W p1.1 p1.2.1 p2.1 p2.2.1 c0 c1 f3 f4
  have OO:=ie (And.intro o5 hswv)
  clear f1 f2 f3 f4 p1 p2 hb hswv o5;have xX5:=X5.cell;have xX6:=X6.cell;have xX7:=X7.cell;have zX70:=X7.frozen;have xX8:=X8.cell
  go_upto_region 9 with (simp only[ha1])
  clear xX5 xX6 xX7 zX70 xX8
  have SX:StN w8 (World.setCell w8 ⟨w5.heap.size,2,none⟩ (.int .u64 S)) _ _ #[.bool s2,.int .u64 H1,.int .u64 S,.int .i64 Z] _:=StN.at4 X7 2 (.int .u64 S)
  replace XR:=XR.s SX;replace X8:=X8.s SX;replace HB:=Hqs HB SX (by omega);replace X7:=SX.box;clear SX;generalize World.setCell w8 ⟨w5.heap.size,2,none⟩ (.int .u64 S)=w9 at *;have xX7:=X7.cell;have zX70:=X7.frozen;have xX8:=X8.cell
  go_upto_region 10 with (simp only[ha2])
  clear xX7 zX70 xX8
  have SX:StN w9 (World.setCell w9 ⟨w5.heap.size,1,none⟩ (.int .u64 T)) _ _ #[.bool s2,.int .u64 T,.int .u64 S,.int .i64 Z] _:=StN.at4 X7 1 (.int .u64 T)
  replace XR:=XR.s SX;replace HB:=Hqs HB SX (by omega);replace X7:=SX.box;clear SX;generalize World.setCell w9 ⟨w5.heap.size,1,none⟩ (.int .u64 T)=wA at *;have xXR:=XR.cell;have zXR0:=XR.frozen;have xX7:=X7.cell;go_wp2;clear xXR zXR0 xX7;have SX:=StN.mk4 XR (.bool s2) (.int .u64 T) (.int .u64 S) (.int .i64 Z)
  exact bq (v:= .agg #[.bool s2,.int .u64 T,.int .u64 S,.int .i64 Z]) (by simp[results,Tryz.results178,go_sem,SX.box.cell]) rfl ⟨_,_,_,_,rfl,wd_of o3 o4 o1 o2 OO.out.1 z1 z2 fun up=>by rw[<-HZ.out];exact(OO.out.2 up (by omega)).2.2,(SX.below HB.out (by omega))⟩
theorem sum_eqge{w:World}{s1 s2:Bool}{M1 M2 E1 E2 x y:Int}(hT:Tb w)(q1:Fq 1 s1 M1 E1 x)(q2:Fq 1 s2 M2 E2 y)(h:E1=E2)(hm:¬M1 < M2):Calls Tryz.prog 178 #[VQ 1 s1 M1 E1,VQ 1 s2 M2 E2] w (PW6 w fun up=>addp up x y):=by
 delta VQ
 obtain⟨a1,a2,a3,a4,_⟩:=fq_vr q1;obtain⟨b1,b2,b3,b4,_⟩:=fq_vr q2
 have HO:=ie (And.intro h hm)
 obtain⟨n,hn⟩:∃n:Nat,(n:Int)=E1-E2+1:=⟨(E1-E2+1).toNat,by omega⟩
 have hsw:∀(S:Int) up,S=M1*9223372036854775808+sgi (s1 !=s2) (mvd M2 n)->0<=S/\S < 340282366920938463463374607431768211456/\rnd up (mk (sgi s1 S) (E1+1-64)).1 (mk (sgi s1 S) (E1+1-64)).2=addp up x y:=fun S up hS=>by
  obtain⟨u1,u2,u3⟩:=sum_wide up q1 q2 (by omega) hn hS;refine⟨u1,u2,?_⟩
  rw[show E1+1-64=E1-63 by omega,u3]
 have HSW:=ie hsw;obtain⟨N,hN⟩:∃N,(n:Int)=N:=⟨_,rfl⟩;obtain⟨D,hD⟩:∃D,E1-E2=D:=⟨_,rfl⟩
 have n1:1<=n:=by omega
 have n3:n<=4000000:=by omega
 have HN:=ie hN
 have HD:=ie (show IntKind.i64.wrap (E1-E2)=D by rw[hD];exact IntWalk.i64_in _ (by omega))
 have HD2:=ie (show IntKind.i64.wrap (D+1)=N by rw[show D+1=N by omega];exact IntWalk.i64_in _ (by omega))
 obtain⟨Y,hY⟩:∃Y,E2+N=Y:=⟨_,rfl⟩;have HY:=ie hY;obtain⟨Z,hZ⟩:∃Z,E1+1=Z:=⟨_,rfl⟩;have HZ:=ie hZ
 have z1: -2900000<=Z:=by omega
 have z2:Z<=2900000:=by omega
 have v1:mvd M1 1=M1*9223372036854775808:=by
  unfold mvd
  rw[if_pos (by decide)]
  rfl
 have HV1:=ie v1
 have g1:9223372036854775808<=M1:=by omega
 have g2:M1 < 18446744073709551616:=by omega
 have g3: -2000000<=E1:=by omega
 have g4:E1<=2000000:=by omega
 have k1:9223372036854775808<=M2:=by omega
 have k2:M2 < 18446744073709551616:=by omega
 have k3: -2000000<=E2:=by omega
 have k4:E2<=2000000:=by omega
 clear hn hN hD hY hZ v1 hsw h hm q1 q2 a1 a2 a3 a4 b1 b2 b3 b4
 go_enter Tryz.func178,Tryz.ntmps178
 go_upto_region 1 with (fail)
 generalize hW1:((w.alloc _).alloc _).alloc _=w1 at *;obtain⟨X2,X3,XR,HB⟩:=Bo.en3 hW1;replace hT:=hT.below HB.out;clear hW1;have xX2:=X2.cell;have xX3:=X3.cell
 go_wp2_with fail
 refine(order_eqge HO.out.1 (by have:=HO.out.2;omega)).mono ?_;rintro ee w2 ⟨rfl,B⟩;clear xX2 xX3;replace XR:=XR.b B;replace hT:=hT.b B;replace HB:=Hqb HB B;clear B
 go_upto_region 2 with (fail)
 clear X2 X3
 have hsz:(World.alloc w2 (.cells #[.int .i64 1,.bool s1,.int .u64 M1,.int .i64 E1] 24)).heap.size=w2.heap.size+1:=by simp
 have nX5XR:=XR.lt;have BX:=bel1 w2 (.cells #[.int .i64 1,.bool s1,.int .u64 M1,.int .i64 E1] 24);replace XR:=XR.b BX;replace hT:=hT.b BX;replace HB:=ie (bt HB.out BX);have X5:=Bo.new w2 #[.int .i64 1,.bool s1,.int .u64 M1,.int .i64 E1] 24
 generalize hWn:World.alloc w2 (.cells #[.int .i64 1,.bool s1,.int .u64 M1,.int .i64 E1] 24)=w3 at *;clear hWn;have nX6XR:=XR.lt;have nX6X5:=X5.lt;generalize hWn:w3.alloc _=w4 at *;obtain⟨X6,BW⟩:=Bo.nw hWn;clear hWn;replace XR:=XR.b BW;replace X5:=X5.b BW;replace hT:=hT.b BW;replace HB:=Hqb HB BW;clear BW;rw[hsz]at X6 nX6X5 nX6XR;clear hsz
 have xX5:=X5.cell
 go_wp2_with fail
 refine(aMoved (n:=1) (s:=s1) hT g1 g2 (by rfl) HZ.out g3 g4 (by decide) (by decide)).mono ?_;rintro ee w5 ⟨H1,L1,rfl,p1,B⟩;clear xX5;replace XR:=XR.b B;replace X5:=X5.b B;replace X6:=X6.b B;replace hT:=hT.b B;replace HB:=Hqb HB B;clear B;rw[HV1.out]at p1
 go_upto_region 3 with (fail)
 have nX7XR:=XR.lt;have nX7X5:=X5.lt;have nX7X6:=X6.lt;generalize hWn:w5.alloc _=w6 at *;obtain⟨X7,BW⟩:=Bo.nw hWn;clear hWn;replace XR:=XR.b BW;replace X5:=X5.b BW;replace X6:=X6.b BW;replace hT:=hT.b BW;replace HB:=Hqb HB BW;clear BW;have xX5:=X5.cell;have xX6:=X6.cell;have hd:=HD.out
 have hd2:=HD2.out
 go_wp2_with fail
 refine(aMoved (s:=s2) hT k1 k2 HN.out HY.out k3 k4 n1 n3).mono ?_;rintro ee w7 ⟨H2,L2,rfl,p2,B⟩;clear xX5 xX6;replace XR:=XR.b B;replace X5:=X5.b B;replace X6:=X6.b B;replace X7:=X7.b B;replace HB:=Hqb HB B;clear B;clear hd hd2
 go_upto_region 5 with (fail)
 have nX8XR:=XR.lt;have nX8X5:=X5.lt;have nX8X6:=X6.lt;have nX8X7:=X7.lt;generalize hWn:w7.alloc _=w8 at *;obtain⟨X8,BW⟩:=Bo.nw hWn;clear hWn;replace XR:=XR.b BW;replace X5:=X5.b BW;replace X6:=X6.b BW;replace X7:=X7.b BW;replace HB:=Hqb HB BW;clear BW
 by_cases hs:s1=s2
 ·subst hs
  have hxor:(s1 !=s1)=false:=by cases s1 <;> rfl
  have hswv:=HSW.out (M1*9223372036854775808+mvd M2 n);rw[hxor,wsg_f]at hswv;have hb:=(hswv true rfl).2.1;obtain⟨S,c,T,d,f1,f2,f3,f4,c0,c1,o1,o2,o3,o4,o5⟩:=add_words p1 p2 hb
  have ha1:=fun W:World=>aAdd64 W p1.2.2.1 p2.2.2.1 (by decide) (by decide) f1 f2
  have ha2:=fun W:World=>aAdd64 W p1.1 p2.1 c0 c1 f3 f4
  have OO:=ie (And.intro o5 hswv)
  clear f1 f2 f3 f4 p1 p2 hb hswv o5;have xX5:=X5.cell;have xX6:=X6.cell;have xX7:=X7.cell;have zX70:=X7.frozen;have xX8:=X8.cell
  go_upto_region 7 with (simp only[ha1])
  clear xX5 xX6 xX7 zX70 xX8
  have SX:StN w8 (World.setCell w8 ⟨w5.heap.size,2,none⟩ (.int .u64 S)) _ _ #[.bool s1,.int .u64 H1,.int .u64 S,.int .i64 Z] _:=StN.at4 X7 2 (.int .u64 S)
  replace XR:=XR.s SX;replace X5:=X5.s SX;replace X6:=X6.s SX;replace X8:=X8.s SX;replace HB:=Hqs HB SX (by omega);replace X7:=SX.box;clear SX;generalize World.setCell w8 ⟨w5.heap.size,2,none⟩ (.int .u64 S)=w9 at *;have xX7:=X7.cell;have zX70:=X7.frozen;have xX8:=X8.cell
  go_upto_region 10 with (simp only[ha2])
  clear xX7 zX70 xX8
  have SX:StN w9 (World.setCell w9 ⟨w5.heap.size,1,none⟩ (.int .u64 T)) _ _ #[.bool s1,.int .u64 T,.int .u64 S,.int .i64 Z] _:=StN.at4 X7 1 (.int .u64 T)
  replace XR:=XR.s SX;replace X5:=X5.s SX;replace X6:=X6.s SX;replace X8:=X8.s SX;replace HB:=Hqs HB SX (by omega);replace X7:=SX.box;clear SX;generalize World.setCell w9 ⟨w5.heap.size,1,none⟩ (.int .u64 T)=wA at *;have xXR:=XR.cell;have zXR0:=XR.frozen;have xX7:=X7.cell
  go_wp2;clear xXR zXR0 xX7;have SX:=StN.mk4 XR (.bool s1) (.int .u64 T) (.int .u64 S) (.int .i64 Z)
  exact bq (v:= .agg #[.bool s1,.int .u64 T,.int .u64 S,.int .i64 Z]) (by simp[results,Tryz.results178,go_sem,SX.box.cell]) rfl ⟨_,_,_,_,rfl,wd_of o3 o4 o1 o2 OO.out.1 z1 z2 fun up=>by rw[<-HZ.out];exact(OO.out.2 up (by first | rfl | trivial)).2.2,(SX.below HB.out (by omega))⟩
 ·have hxor:(s1 !=s2)=true:=by cases s1 <;> cases s2 <;> first | rfl | exact absurd rfl hs
  have hne:(s1==s2)=false:=by cases s1 <;> cases s2 <;> first | rfl | exact absurd rfl hs
  have hswv:=HSW.out (M1*9223372036854775808-mvd M2 n);rw[hxor,wsg_t]at hswv;have hb:=(hswv true (by omega)).1;obtain⟨S,c,T,d,f1,f2,f3,f4,c0,c1,o1,o2,o3,o4,o5⟩:=sub_words p1 p2 hb
  have ha1:=fun W:World=>aSub64 W p1.2.2.1 p1.2.2.2.1 p2.2.2.1 p2.2.2.2.1 (by decide) (by decide) f1 f2
  have ha2:=fun W:World=>aSub64 W p1.1 p1.2.1 p2.1 p2.2.1 c0 c1 f3 f4
  have OO:=ie (And.intro o5 hswv)
  clear f1 f2 f3 f4 p1 p2 hb hswv o5;have xX5:=X5.cell;have xX6:=X6.cell;have xX7:=X7.cell;have zX70:=X7.frozen;have xX8:=X8.cell
  go_upto_region 9 with (simp only[ha1])
  clear xX5 xX6 xX7 zX70 xX8
  have SX:StN w8 (World.setCell w8 ⟨w5.heap.size,2,none⟩ (.int .u64 S)) _ _ #[.bool s1,.int .u64 H1,.int .u64 S,.int .i64 Z] _:=StN.at4 X7 2 (.int .u64 S)
  replace XR:=XR.s SX;replace X8:=X8.s SX;replace HB:=Hqs HB SX (by omega);replace X7:=SX.box;clear SX;generalize World.setCell w8 ⟨w5.heap.size,2,none⟩ (.int .u64 S)=w9 at *;have xX7:=X7.cell;have zX70:=X7.frozen;have xX8:=X8.cell
  go_upto_region 10 with (simp only[ha2])
  clear xX7 zX70 xX8
  have SX:StN w9 (World.setCell w9 ⟨w5.heap.size,1,none⟩ (.int .u64 T)) _ _ #[.bool s1,.int .u64 T,.int .u64 S,.int .i64 Z] _:=StN.at4 X7 1 (.int .u64 T)
  replace XR:=XR.s SX;replace HB:=Hqs HB SX (by omega);replace X7:=SX.box;clear SX;generalize World.setCell w9 ⟨w5.heap.size,1,none⟩ (.int .u64 T)=wA at *;have xXR:=XR.cell;have zXR0:=XR.frozen;have xX7:=X7.cell;go_wp2;clear xXR zXR0 xX7;have SX:=StN.mk4 XR (.bool s1) (.int .u64 T) (.int .u64 S) (.int .i64 Z)
  exact bq (v:= .agg #[.bool s1,.int .u64 T,.int .u64 S,.int .i64 Z]) (by simp[results,Tryz.results178,go_sem,SX.box.cell]) rfl ⟨_,_,_,_,rfl,wd_of o3 o4 o1 o2 OO.out.1 z1 z2 fun up=>by rw[<-HZ.out];exact(OO.out.2 up (by omega)).2.2,(SX.below HB.out (by omega))⟩
theorem sum_gt{w:World}{s1 s2:Bool}{M1 M2 E1 E2 x y:Int}(hT:Tb w)(q1:Fq 1 s1 M1 E1 x)(q2:Fq 1 s2 M2 E2 y)(h:E2 < E1):Calls Tryz.prog 178 #[VQ 1 s1 M1 E1,VQ 1 s2 M2 E2] w (PW6 w fun up=>addp up x y):=by
 delta VQ
 obtain⟨a1,a2,a3,a4,_⟩:=fq_vr q1;obtain⟨b1,b2,b3,b4,_⟩:=fq_vr q2;have HO:=ie (h);obtain⟨n,hn⟩:∃n:Nat,(n:Int)=E1-E2+1:=⟨(E1-E2+1).toNat,by omega⟩
 have hsw:∀(S:Int) up,S=M1*9223372036854775808+sgi (s1 !=s2) (mvd M2 n)->0<=S/\S < 340282366920938463463374607431768211456/\rnd up (mk (sgi s1 S) (E1+1-64)).1 (mk (sgi s1 S) (E1+1-64)).2=addp up x y:=fun S up hS=>by
  obtain⟨u1,u2,u3⟩:=sum_wide up q1 q2 (by omega) hn hS;refine⟨u1,u2,?_⟩
  rw[show E1+1-64=E1-63 by omega,u3]
 have HSW:=ie hsw;obtain⟨N,hN⟩:∃N,(n:Int)=N:=⟨_,rfl⟩;obtain⟨D,hD⟩:∃D,E1-E2=D:=⟨_,rfl⟩
 have n1:1<=n:=by omega
 have n3:n<=4000000:=by omega
 have HN:=ie hN
 have HD:=ie (show IntKind.i64.wrap (E1-E2)=D by rw[hD];exact IntWalk.i64_in _ (by omega))
 have HD2:=ie (show IntKind.i64.wrap (D+1)=N by rw[show D+1=N by omega];exact IntWalk.i64_in _ (by omega))
 obtain⟨Y,hY⟩:∃Y,E2+N=Y:=⟨_,rfl⟩;have HY:=ie hY;obtain⟨Z,hZ⟩:∃Z,E1+1=Z:=⟨_,rfl⟩;have HZ:=ie hZ
 have z1: -2900000<=Z:=by omega
 have z2:Z<=2900000:=by omega
 have v1:mvd M1 1=M1*9223372036854775808:=by
  unfold mvd
  rw[if_pos (by decide)]
  rfl
 have HV1:=ie v1
 have g1:9223372036854775808<=M1:=by omega
 have g2:M1 < 18446744073709551616:=by omega
 have g3: -2000000<=E1:=by omega
 have g4:E1<=2000000:=by omega
 have k1:9223372036854775808<=M2:=by omega
 have k2:M2 < 18446744073709551616:=by omega
 have k3: -2000000<=E2:=by omega
 have k4:E2<=2000000:=by omega
 clear hn hN hD hY hZ v1 hsw h q1 q2 a1 a2 a3 a4 b1 b2 b3 b4
 go_enter Tryz.func178,Tryz.ntmps178
 go_upto_region 1 with (fail)
 generalize hW1:((w.alloc _).alloc _).alloc _=w1 at *;obtain⟨X2,X3,XR,HB⟩:=Bo.en3 hW1;replace hT:=hT.below HB.out;clear hW1;have xX2:=X2.cell;have xX3:=X3.cell
 go_wp2_with fail
 refine(order_gt HO.out).mono ?_;rintro ee w2 ⟨rfl,B⟩;clear xX2 xX3;replace XR:=XR.b B;replace hT:=hT.b B;replace HB:=Hqb HB B;clear B
 go_upto_region 2 with (fail)
 clear X2 X3
 have hsz:(World.alloc w2 (.cells #[.int .i64 1,.bool s1,.int .u64 M1,.int .i64 E1] 24)).heap.size=w2.heap.size+1:=by simp
 have nX5XR:=XR.lt;have BX:=bel1 w2 (.cells #[.int .i64 1,.bool s1,.int .u64 M1,.int .i64 E1] 24);replace XR:=XR.b BX;replace hT:=hT.b BX;replace HB:=ie (bt HB.out BX);have X5:=Bo.new w2 #[.int .i64 1,.bool s1,.int .u64 M1,.int .i64 E1] 24
 generalize hWn:World.alloc w2 (.cells #[.int .i64 1,.bool s1,.int .u64 M1,.int .i64 E1] 24)=w3 at *;clear hWn;have nX6XR:=XR.lt;have nX6X5:=X5.lt;generalize hWn:w3.alloc _=w4 at *;obtain⟨X6,BW⟩:=Bo.nw hWn;clear hWn;replace XR:=XR.b BW;replace X5:=X5.b BW;replace hT:=hT.b BW;replace HB:=Hqb HB BW;clear BW;rw[hsz]at X6 nX6X5 nX6XR;clear hsz
 have xX5:=X5.cell
 go_wp2_with fail
 refine(aMoved (n:=1) (s:=s1) hT g1 g2 (by rfl) HZ.out g3 g4 (by decide) (by decide)).mono ?_;rintro ee w5 ⟨H1,L1,rfl,p1,B⟩;clear xX5;replace XR:=XR.b B;replace X5:=X5.b B;replace X6:=X6.b B;replace hT:=hT.b B;replace HB:=Hqb HB B;clear B;rw[HV1.out]at p1
 go_upto_region 3 with (fail)
 have nX7XR:=XR.lt;have nX7X5:=X5.lt;have nX7X6:=X6.lt;generalize hWn:w5.alloc _=w6 at *;obtain⟨X7,BW⟩:=Bo.nw hWn;clear hWn;replace XR:=XR.b BW;replace X5:=X5.b BW;replace X6:=X6.b BW;replace hT:=hT.b BW;replace HB:=Hqb HB BW;clear BW;have xX5:=X5.cell;have xX6:=X6.cell;have hd:=HD.out
 have hd2:=HD2.out
 go_wp2_with fail
 refine(aMoved (s:=s2) hT k1 k2 HN.out HY.out k3 k4 n1 n3).mono ?_;rintro ee w7 ⟨H2,L2,rfl,p2,B⟩;clear xX5 xX6;replace XR:=XR.b B;replace X5:=X5.b B;replace X6:=X6.b B;replace X7:=X7.b B;replace HB:=Hqb HB B;clear B;clear hd hd2
 go_upto_region 5 with (fail)
 have nX8XR:=XR.lt;have nX8X5:=X5.lt;have nX8X6:=X6.lt;have nX8X7:=X7.lt;generalize hWn:w7.alloc _=w8 at *;obtain⟨X8,BW⟩:=Bo.nw hWn;clear hWn;replace XR:=XR.b BW;replace X5:=X5.b BW;replace X6:=X6.b BW;replace X7:=X7.b BW;replace HB:=Hqb HB BW;clear BW
 by_cases hs:s1=s2
 ·subst hs
  have hxor:(s1 !=s1)=false:=by cases s1 <;> rfl
  have hswv:=HSW.out (M1*9223372036854775808+mvd M2 n);rw[hxor,wsg_f]at hswv;have hb:=(hswv true rfl).2.1;obtain⟨S,c,T,d,f1,f2,f3,f4,c0,c1,o1,o2,o3,o4,o5⟩:=add_words p1 p2 hb
  have ha1:=fun W:World=>aAdd64 W p1.2.2.1 p2.2.2.1 (by decide) (by decide) f1 f2
  have ha2:=fun W:World=>aAdd64 W p1.1 p2.1 c0 c1 f3 f4
  have OO:=ie (And.intro o5 hswv)
  clear f1 f2 f3 f4 p1 p2 hb hswv o5;have xX5:=X5.cell;have xX6:=X6.cell;have xX7:=X7.cell;have zX70:=X7.frozen;have xX8:=X8.cell
  go_upto_region 7 with (simp only[ha1])
  clear xX5 xX6 xX7 zX70 xX8
  have SX:StN w8 (World.setCell w8 ⟨w5.heap.size,2,none⟩ (.int .u64 S)) _ _ #[.bool s1,.int .u64 H1,.int .u64 S,.int .i64 Z] _:=StN.at4 X7 2 (.int .u64 S)
  replace XR:=XR.s SX;replace X5:=X5.s SX;replace X6:=X6.s SX;replace X8:=X8.s SX;replace HB:=Hqs HB SX (by omega);replace X7:=SX.box;clear SX;generalize World.setCell w8 ⟨w5.heap.size,2,none⟩ (.int .u64 S)=w9 at *;have xX7:=X7.cell;have zX70:=X7.frozen;have xX8:=X8.cell
  go_upto_region 10 with (simp only[ha2])
  clear xX7 zX70 xX8
  have SX:StN w9 (World.setCell w9 ⟨w5.heap.size,1,none⟩ (.int .u64 T)) _ _ #[.bool s1,.int .u64 T,.int .u64 S,.int .i64 Z] _:=StN.at4 X7 1 (.int .u64 T)
  replace XR:=XR.s SX;replace X5:=X5.s SX;replace X6:=X6.s SX;replace X8:=X8.s SX;replace HB:=Hqs HB SX (by omega);replace X7:=SX.box;clear SX;generalize World.setCell w9 ⟨w5.heap.size,1,none⟩ (.int .u64 T)=wA at *;have xXR:=XR.cell;have zXR0:=XR.frozen;have xX7:=X7.cell
  go_wp2;clear xXR zXR0 xX7;have SX:=StN.mk4 XR (.bool s1) (.int .u64 T) (.int .u64 S) (.int .i64 Z)
  exact bq (v:= .agg #[.bool s1,.int .u64 T,.int .u64 S,.int .i64 Z]) (by simp[results,Tryz.results178,go_sem,SX.box.cell]) rfl ⟨_,_,_,_,rfl,wd_of o3 o4 o1 o2 OO.out.1 z1 z2 fun up=>by rw[<-HZ.out];exact(OO.out.2 up (by first | rfl | trivial)).2.2,(SX.below HB.out (by omega))⟩
 ·have hxor:(s1 !=s2)=true:=by cases s1 <;> cases s2 <;> first | rfl | exact absurd rfl hs
  have hne:(s1==s2)=false:=by cases s1 <;> cases s2 <;> first | rfl | exact absurd rfl hs
  have hswv:=HSW.out (M1*9223372036854775808-mvd M2 n);rw[hxor,wsg_t]at hswv;have hb:=(hswv true (by omega)).1;obtain⟨S,c,T,d,f1,f2,f3,f4,c0,c1,o1,o2,o3,o4,o5⟩:=sub_words p1 p2 hb
  have ha1:=fun W:World=>aSub64 W p1.2.2.1 p1.2.2.2.1 p2.2.2.1 p2.2.2.2.1 (by decide) (by decide) f1 f2
  have ha2:=fun W:World=>aSub64 W p1.1 p1.2.1 p2.1 p2.2.1 c0 c1 f3 f4
  have OO:=ie (And.intro o5 hswv)
  clear f1 f2 f3 f4 p1 p2 hb hswv o5;have xX5:=X5.cell;have xX6:=X6.cell;have xX7:=X7.cell;have zX70:=X7.frozen;have xX8:=X8.cell
  go_upto_region 9 with (simp only[ha1])
  clear xX5 xX6 xX7 zX70 xX8
  have SX:StN w8 (World.setCell w8 ⟨w5.heap.size,2,none⟩ (.int .u64 S)) _ _ #[.bool s1,.int .u64 H1,.int .u64 S,.int .i64 Z] _:=StN.at4 X7 2 (.int .u64 S)
  replace XR:=XR.s SX;replace X8:=X8.s SX;replace HB:=Hqs HB SX (by omega);replace X7:=SX.box;clear SX;generalize World.setCell w8 ⟨w5.heap.size,2,none⟩ (.int .u64 S)=w9 at *;have xX7:=X7.cell;have zX70:=X7.frozen;have xX8:=X8.cell
  go_upto_region 10 with (simp only[ha2])
  clear xX7 zX70 xX8
  have SX:StN w9 (World.setCell w9 ⟨w5.heap.size,1,none⟩ (.int .u64 T)) _ _ #[.bool s1,.int .u64 T,.int .u64 S,.int .i64 Z] _:=StN.at4 X7 1 (.int .u64 T)
  replace XR:=XR.s SX;replace HB:=Hqs HB SX (by omega);replace X7:=SX.box;clear SX;generalize World.setCell w9 ⟨w5.heap.size,1,none⟩ (.int .u64 T)=wA at *;have xXR:=XR.cell;have zXR0:=XR.frozen;have xX7:=X7.cell;go_wp2;clear xXR zXR0 xX7;have SX:=StN.mk4 XR (.bool s1) (.int .u64 T) (.int .u64 S) (.int .i64 Z)
  exact bq (v:= .agg #[.bool s1,.int .u64 T,.int .u64 S,.int .i64 Z]) (by simp[results,Tryz.results178,go_sem,SX.box.cell]) rfl ⟨_,_,_,_,rfl,wd_of o3 o4 o1 o2 OO.out.1 z1 z2 fun up=>by rw[<-HZ.out];exact(OO.out.2 up (by omega)).2.2,(SX.below HB.out (by omega))⟩
theorem aSum2{w:World}{s1 s2:Bool}{M1 M2 E1 E2 x y:Int}(hT:Tb w)(q1:Fq 1 s1 M1 E1 x)(q2:Fq 1 s2 M2 E2 y):Calls Tryz.prog 178 #[VQ 1 s1 M1 E1,VQ 1 s2 M2 E2] w (PW6 w fun up=>addp up x y):=by
 delta VQ
 rcases Int.lt_trichotomy E1 E2 with h | h | h
 ·exact sum_lt hT q1 q2 h
 ·by_cases hm:M1 < M2
  ·exact sum_eqlt hT q1 q2 h hm
  ·exact sum_eqge hT q1 q2 h hm
 ·exact sum_gt hT q1 q2 h
theorem aProduct{w:World}{s1 s2:Bool}{M1 M2 E1 E2 x y:Int}(q1:Fq 1 s1 M1 E1 x)(q2:Fq 1 s2 M2 E2 y):Calls Tryz.prog 183 #[VQ 1 s1 M1 E1,VQ 1 s2 M2 E2] w (PW6 w fun up=>mulp up x y):=by
 delta VQ
 obtain⟨a1,a2,a3,a4,_⟩:=fq_vr q1;obtain⟨b1,b2,b3,b4,_⟩:=fq_vr q2;obtain⟨u1,u2,_⟩:=pro_wide true q1 q2
 have HU:=ie (fun up=>(pro_wide up q1 q2).2.2)
 obtain⟨G,hG⟩:∃G,E1+E2=G:=⟨_,rfl⟩;obtain⟨Z,hZ⟩:∃Z,G+64=Z:=⟨_,rfl⟩
 have HG:=ie (show IntKind.i64.wrap (E1+E2)=G by rw[hG];exact IntWalk.i64_in _ (by omega))
 have HZ:=ie (show IntKind.i64.wrap (G+64)=Z by rw[hZ];exact IntWalk.i64_in _ (by omega))
 have HGZ:=ie (And.intro hG hZ)
 obtain⟨H,hH⟩:∃H,M1*M2/18446744073709551616=H:=⟨_,rfl⟩;obtain⟨L,hL⟩:∃L,M1*M2%18446744073709551616=L:=⟨_,rfl⟩
 have z1: -2900000<=Z:=by omega
 have z2:Z<=2900000:=by omega
 have HV:Hid (0<=H/\H < 18446744073709551616/\0<=L/\L < 18446744073709551616/\H*18446744073709551616+L=M1*M2):=ie (by
  revert u1 u2 hH hL
  generalize M1*M2=P
  intro u1 u2 hH hL
  omega)
 have HH:=ie hH;have HL:=ie hL
 have k1:0<=M1:=by omega
 have k2:0<=M2:=by omega
 clear u1 u2 hH hL hG hZ q1 q2 a1 a3 a4 b1 b3 b4
 go_enter Tryz.func183,Tryz.ntmps183
 go_upto_region 1 with (fail)
 generalize hW1:((w.alloc _).alloc _).alloc _=w1 at *;obtain⟨X2,X3,XR,HB⟩:=Bo.en3 hW1;clear hW1;have xX2:=X2.cell;have xX3:=X3.cell
 go_wp2_with fail
 refine(aMul64 _ k1 a2 k2 b2 HH.out HL.out).mono ?_;rintro ee w2 ⟨rfl,B⟩;clear xX2 xX3;replace X2:=X2.b B;replace X3:=X3.b B;replace XR:=XR.b B;replace HB:=Hqb HB B;clear B;have hg:=HG.out;have hz:=HZ.out;have xXR:=XR.cell;have zXR0:=XR.frozen;have xX2:=X2.cell;have xX3:=X3.cell
 go_wp2;clear xXR zXR0 xX2 xX3;have SX:=StN.mk4 XR (.bool (!(s1==s2))) (.int .u64 H) (.int .u64 L) (.int .i64 Z)
 exact bq (v:= .agg #[.bool (!(s1==s2)),.int .u64 H,.int .u64 L,.int .i64 Z]) (by simp[results,Tryz.results183,go_sem,SX.box.cell]) rfl ⟨_,_,_,_,rfl,wd_of HV.out.1 HV.out.2.1 HV.out.2.2.1 HV.out.2.2.2.1 HV.out.2.2.2.2 z1 z2 fun up=>by rw[<-HU.out up,show (!(s1==s2))=(s1 !=s2)from rfl,show Z-64=E1+E2 by have:=HGZ.out;omega],(SX.below HB.out (by omega))⟩
theorem fq_tk{D:Int}{s:Bool}{M E:Int}(hM:LQ M):∃K1 s1 M1 E1,Fq K1 s1 M1 E1 (rk D s M E):=by
 by_cases hm:MayQ D s M E
 ·exact⟨_,_,_,_,rk_fq hM hm⟩
 ·rw[rk_not hm];exact⟨_,_,_,_,Fq.nought⟩
theorem aTaken{w:World}{D M E:Int}{s:Bool}{K1 M1 E1 x:Int}{s1:Bool}(hM:LQ M)(q:Fq K1 s1 M1 E1 x)(hx:rk D s M E=x):Calls Tryz.prog 177 #[VQ D s M E] w (fun e w'=>e= .returned (.agg #[.int .i64 K1,.bool s1,.int .u64 M1,.int .i64 E1])/\Below w.heap.size w w'):=by
 delta VQ
 by_cases hm:MayQ D s M E
 ·obtain⟨rfl,rfl,rfl,rfl⟩:=q.uniq (hx▸rk_fq hM hm)
  have HC:=ie (show decide (MayQ K1 s1 M1 E1)=true from dt hm)
  clear hm hx hM q
  go_enter Tryz.func177,Tryz.ntmps177
  go_upto_region 1 with (fail)
  generalize hW1:(w.alloc _).alloc _=w1 at *;obtain⟨X1,XR,HB⟩:=Bo.en2 hW1;clear hW1;have xX1:=X1.cell
  go_wp2_with fail
  refine(nMay HC.out).mono ?_;rintro ee w2 ⟨rfl,B⟩;clear xX1;replace X1:=X1.b B;replace XR:=XR.b B;replace HB:=Hqb HB B;clear B;have xXR:=XR.cell;have zXR0:=XR.frozen;have xX1:=X1.cell;go_wp2;clear xXR zXR0 xX1;have SX:=StN.t4 XR K1 s1 M1 E1
  exact bq (v:= .agg #[.int .i64 K1,.bool s1,.int .u64 M1,.int .i64 E1]) (by simp[results,Tryz.results177,go_sem,SX.box.cell]) rfl ⟨rfl,(SX.below HB.out (by omega))⟩
 ·rw[rk_not hm]at hx;subst hx;obtain⟨rfl,rfl,rfl,rfl⟩:=q.uniq Fq.nought
  have HC:=ie (show decide (MayQ D s M E)=false from df hm)
  clear hm hM q
  go_enter Tryz.func177,Tryz.ntmps177
  go_upto_region 1 with (fail)
  generalize hW1:(w.alloc _).alloc _=w1 at *;obtain⟨X1,XR,HB⟩:=Bo.en2 hW1;clear hW1;have xX1:=X1.cell
  go_wp2_with fail
  refine(nMay HC.out).mono ?_;rintro ee w2 ⟨rfl,B⟩;clear xX1;replace X1:=X1.b B;replace XR:=XR.b B;replace HB:=Hqb HB B;clear B;have xXR:=XR.cell;have zXR0:=XR.frozen;have xX1:=X1.cell;go_wp2;clear xXR zXR0 xX1;have SX:=StN.t4 XR 0 false 0 0
  exact bq (v:= .agg #[.int .i64 0,.bool false,.int .u64 0,.int .i64 0]) (by simp[results,Tryz.results177,go_sem,SX.box.cell]) rfl ⟨rfl,(SX.below HB.out (by omega))⟩
theorem aAdd{w:World}{D D' M M' E E':Int}{s s':Bool}{up:Bool}{x y r:Int}(hT:Tb w)(hM:LQ M)(hM':LQ M')(hx:rk D s M E=x)(hy:rk D' s' M' E'=y)(hr:addp up x y=r):Calls Tryz.prog 106 #[VQ D s M E,VQ D' s' M' E',.bool up] w (PN w r):=by
 delta VQ
 obtain⟨K1,s1,M1,E1,q1⟩:=fq_tk (D:=D) (s:=s) (M:=M) (E:=E) hM;obtain⟨K2,s2,M2,E2,q2⟩:=fq_tk (D:=D') (s:=s') (M:=M') (E:=E') hM';rw[hx]at q1;rw[hy]at q2;have HX:=ie hx;have HY:=ie hy;clear hx hy
 go_enter Tryz.func106,Tryz.ntmps106
 go_upto_region 1 with (fail)
 generalize hW1:((w.alloc _).alloc _).alloc _=w1 at *;obtain⟨X3,X4,XR,HB⟩:=Bo.en3 hW1;replace hT:=hT.below HB.out;clear hW1;refine jk [0,1,2,3] [some 7,some 8,some 9,some 10,none,none] [[],[0],[],[2],[],[]] 6 2 [Jo.q4 D s M E,Jo.q4 K1 s1 M1 E1,Jo.q4 D' s' M' E',Jo.q4 K2 s2 M2 E2,Jo.Fact.any,Jo.Fact.any] ?_ ?_
 ·refine jm ?_ ?_;rotate_left
  refine jm ?_ ?_
  ·rintro wj hJ _ rfl K hK;simp only[Jo.z]at hK|-;go_simp;refine(aTaken hM q1 HX.out).mono ?_;rintro ee wk ⟨rfl,B⟩;exact hK.out _ _ rfl B
  refine jm ?_ ?_;rotate_left
  refine jm ?_ ?_
  ·rintro wj hJ _ rfl K hK;simp only[Jo.z]at hK|-;go_simp;refine(aTaken hM' q2 HY.out).mono ?_;rintro ee wk ⟨rfl,B⟩;exact hK.out _ _ rfl B
  exact jo
  all_goals (rintro wj hJ;(repeat rintro _ rfl);intro K hK;simp only[Jo.z]at hK|-;have xX3:=(X3.b hJ).cell;have xX4:=(X4.b hJ).cell;go_simp;exact hK.out _ _ rfl (br _ _))
 rintro w2 hJ _ rfl _ rfl _ rfl _ rfl -;simp only[Jo.z];replace X3:=X3.b hJ;replace X4:=X4.b hJ;replace XR:=XR.b hJ;replace hT:=hT.b hJ;replace HB:=Hqb HB hJ;have xX3:=X3.cell;have zX30:=X3.frozen
 refine jn 4 fun K hK=>?_
 go_simp;refine hK.out _ _ ?_;clear hK K xX3 zX30;generalize hS:(((w2.setCell _ _).setCell _ _).setCell _ _).setCell _ _=w3 at *;have SX:=StN.of4 X3 hS;replace X4:=X4.s SX;replace XR:=XR.s SX;replace hT:=hT.s SX;replace HB:=Hqs HB SX (by omega);replace X3:=SX.box;clear SX hS;have xX4:=X4.cell
 have zX40:=X4.frozen
 refine jn 5 fun K hK=>?_
 go_simp;refine hK.out _ _ ?_;clear hK K xX4 zX40;generalize hS:(((w3.setCell _ _).setCell _ _).setCell _ _).setCell _ _=w4 at *;have SX:=StN.of4 X4 hS;replace X3:=X3.s SX;replace XR:=XR.s SX;replace hT:=hT.s SX;replace HB:=Hqs HB SX (by omega);replace X4:=SX.box;clear SX hS;refine jd ?_
 clear HX HY hM hM';have i1:=fq_inf q1;have i2:=fq_inf q2;have z1:=q1.zero_iff;have z2:=q2.zero_iff;have d1:=q1.bd;have d2:=q2.bd
 have kk1:K1=2\/K1=0\/K1=1:=by rcases q1.cases with⟨h,_⟩ | ⟨h,_⟩ | ⟨h,_⟩ <;> omega
 have kk2:K2=2\/K2=0\/K2=1:=by rcases q2.cases with⟨h,_⟩ | ⟨h,_⟩ | ⟨h,_⟩ <;> omega
 rcases kk1 with rfl | rfl | rfl
 ·rcases kk2 with rfl | rfl | rfl
  ·by_cases ks:s1=s2
   ·rw[addp_same up i1 ((fq_same q1 q2).2 ks)]at hr;subst hr;subst ks;clear i1 i2 z1 z2 d1 d2 q2;have xXR:=XR.cell;have zXR0:=XR.frozen;have xX3:=X3.cell;have xX4:=X4.cell;go_wp2;clear xXR zXR0 xX3 xX4;have SX:=StN.t4 XR 2 s1 M1 E1
    exact bq (by simp[results,Tryz.results106,go_sem,SX.box.cell]) rfl ⟨_,_,_,_,rfl,q1,(SX.below HB.out (by omega))⟩
   ·rw[addp_diff up i1 i2 (fun e=>ks ((fq_same q1 q2).1 e))]at hr
    obtain rfl:(!s1)=s2:=by cases s1 <;> cases s2 <;> first | rfl | exact absurd rfl ks
    have e2:(s1==!s1)=false:=by cases s1 <;> rfl
    have HRR:=ie hr;clear i1 i2 z1 z2 d1 d2 q1 q2 hr ks;have xX3:=X3.cell;have xX4:=X4.cell
    go_wp2_with fail
    refine(nInf (s:=!up) HRR.out).mono ?_;rintro ee w5 ⟨K3,s3,M3,E3,rfl,q3,B⟩;clear xX3 xX4;replace X3:=X3.b B;replace X4:=X4.b B;replace XR:=XR.b B;replace HB:=Hqb HB B;clear B;have xXR:=XR.cell;have zXR0:=XR.frozen;go_wp2;clear xXR zXR0;have SX:=StN.t4 XR K3 s3 M3 E3
    exact bq (by simp[results,Tryz.results106,go_sem,SX.box.cell]) rfl ⟨_,_,_,_,rfl,q3,(SX.below HB.out (by omega))⟩
  ·rw[addp_tf up i1 i2]at hr;subst hr;clear i1 i2 z1 z2 d1 d2 q2;have xXR:=XR.cell;have zXR0:=XR.frozen;have xX3:=X3.cell;have xX4:=X4.cell;go_wp2;clear xXR zXR0 xX3 xX4;have SX:=StN.t4 XR 2 s1 M1 E1;exact bq (by simp[results,Tryz.results106,go_sem,SX.box.cell]) rfl ⟨_,_,_,_,rfl,q1,(SX.below HB.out (by omega))⟩
  ·rw[addp_tf up i1 i2]at hr;subst hr;clear i1 i2 z1 z2 d1 d2 q2;have xXR:=XR.cell;have zXR0:=XR.frozen;have xX3:=X3.cell;have xX4:=X4.cell;go_wp2;clear xXR zXR0 xX3 xX4;have SX:=StN.t4 XR 2 s1 M1 E1;exact bq (by simp[results,Tryz.results106,go_sem,SX.box.cell]) rfl ⟨_,_,_,_,rfl,q1,(SX.below HB.out (by omega))⟩
 ·rcases kk2 with rfl | rfl | rfl
  ·rw[addp_ft up i1 i2]at hr;subst hr;clear i1 i2 z1 z2 d1 d2 q1;have xXR:=XR.cell;have zXR0:=XR.frozen;have xX3:=X3.cell;have xX4:=X4.cell;go_wp2;clear xXR zXR0 xX3 xX4;have SX:=StN.t4 XR 2 s2 M2 E2;exact bq (by simp[results,Tryz.results106,go_sem,SX.box.cell]) rfl ⟨_,_,_,_,rfl,q2,(SX.below HB.out (by omega))⟩
  ·rw[z2.1 rfl,addp_zero up d1.1 d1.2]at hr;subst hr;clear i1 i2 z1 z2 d1 d2 q2;have xXR:=XR.cell;have zXR0:=XR.frozen;have xX3:=X3.cell;have xX4:=X4.cell;go_wp2;clear xXR zXR0 xX3 xX4;have SX:=StN.t4 XR 0 s1 M1 E1;exact bq (by simp[results,Tryz.results106,go_sem,SX.box.cell]) rfl ⟨_,_,_,_,rfl,q1,(SX.below HB.out (by omega))⟩
  ·rw[z1.1 rfl,addp_comm,addp_zero up d2.1 d2.2]at hr;subst hr;clear i1 i2 z1 z2 d1 d2 q1;have xXR:=XR.cell;have zXR0:=XR.frozen;have xX3:=X3.cell;have xX4:=X4.cell;go_wp2;clear xXR zXR0 xX3 xX4;have SX:=StN.t4 XR 1 s2 M2 E2
   exact bq (by simp[results,Tryz.results106,go_sem,SX.box.cell]) rfl ⟨_,_,_,_,rfl,q2,(SX.below HB.out (by omega))⟩
 ·rcases kk2 with rfl | rfl | rfl
  ·rw[addp_ft up i1 i2]at hr;subst hr;clear i1 i2 z1 z2 d1 d2 q1;have xXR:=XR.cell;have zXR0:=XR.frozen;have xX3:=X3.cell;have xX4:=X4.cell;go_wp2;clear xXR zXR0 xX3 xX4;have SX:=StN.t4 XR 2 s2 M2 E2;exact bq (by simp[results,Tryz.results106,go_sem,SX.box.cell]) rfl ⟨_,_,_,_,rfl,q2,(SX.below HB.out (by omega))⟩
  ·rw[z2.1 rfl,addp_zero up d1.1 d1.2]at hr;subst hr;clear i1 i2 z1 z2 d1 d2 q2;have xXR:=XR.cell;have zXR0:=XR.frozen;have xX3:=X3.cell;have xX4:=X4.cell;go_wp2;clear xXR zXR0 xX3 xX4;have SX:=StN.t4 XR 1 s1 M1 E1;exact bq (by simp[results,Tryz.results106,go_sem,SX.box.cell]) rfl ⟨_,_,_,_,rfl,q1,(SX.below HB.out (by omega))⟩
  ·have HRR:=ie hr;clear i1 i2 z1 z2 d1 d2 hr;have xX3:=X3.cell;have xX4:=X4.cell
   go_wp2_with fail
   refine(aSum2 hT q1 q2).mono ?_;rintro ee w5 ⟨s3,H3,L3,x3,rfl,p3,B⟩;clear xX3 xX4;replace XR:=XR.b B;replace HB:=Hqb HB B;clear B
   go_wp2_with fail
   refine(aRound p3 HRR.out).mono ?_;rintro ee w6 ⟨K4,s4,M4,E4,rfl,q4,B⟩;replace XR:=XR.b B;replace HB:=Hqb HB B;clear B;have xXR:=XR.cell;have zXR0:=XR.frozen;go_wp2;clear xXR zXR0;have SX:=StN.t4 XR K4 s4 M4 E4;exact bq (by simp[results,Tryz.results106,go_sem,SX.box.cell]) rfl ⟨_,_,_,_,rfl,q4,(SX.below HB.out (by omega))⟩
theorem aMul{w:World}{D D' M M' E E':Int}{s s':Bool}{up:Bool}{x y r:Int}(hM:LQ M)(hM':LQ M')(hx:rk D s M E=x)(hy:rk D' s' M' E'=y)(hr:mulp up x y=r):Calls Tryz.prog 117 #[VQ D s M E,VQ D' s' M' E',.bool up] w (PN w r):=by
 delta VQ
 obtain⟨K1,s1,M1,E1,q1⟩:=fq_tk (D:=D) (s:=s) (M:=M) (E:=E) hM;obtain⟨K2,s2,M2,E2,q2⟩:=fq_tk (D:=D') (s:=s') (M:=M') (E:=E') hM';rw[hx]at q1;rw[hy]at q2;have HX:=ie hx;have HY:=ie hy;clear hx hy
 go_enter Tryz.func117,Tryz.ntmps117
 go_upto_region 1 with (fail)
 generalize hW1:((w.alloc _).alloc _).alloc _=w1 at *;obtain⟨X3,X4,XR,HB⟩:=Bo.en3 hW1;clear hW1;refine jk [0,1,2,3] [some 7,some 8,some 9,some 10,none,none] [[],[0],[],[2],[],[]] 6 2 [Jo.q4 D s M E,Jo.q4 K1 s1 M1 E1,Jo.q4 D' s' M' E',Jo.q4 K2 s2 M2 E2,Jo.Fact.any,Jo.Fact.any] ?_ ?_
 ·refine jm ?_ ?_;rotate_left
  refine jm ?_ ?_
  ·rintro wj hJ _ rfl K hK;simp only[Jo.z]at hK|-;go_simp;refine(aTaken hM q1 HX.out).mono ?_;rintro ee wk ⟨rfl,B⟩;exact hK.out _ _ rfl B
  refine jm ?_ ?_;rotate_left
  refine jm ?_ ?_
  ·rintro wj hJ _ rfl K hK;simp only[Jo.z]at hK|-;go_simp;refine(aTaken hM' q2 HY.out).mono ?_;rintro ee wk ⟨rfl,B⟩;exact hK.out _ _ rfl B
  exact jo
  all_goals (rintro wj hJ;(repeat rintro _ rfl);intro K hK;simp only[Jo.z]at hK|-;have xX3:=(X3.b hJ).cell;have xX4:=(X4.b hJ).cell;go_simp;exact hK.out _ _ rfl (br _ _))
 rintro w2 hJ _ rfl _ rfl _ rfl _ rfl -;simp only[Jo.z];replace X3:=X3.b hJ;replace X4:=X4.b hJ;replace XR:=XR.b hJ;replace HB:=Hqb HB hJ;have xX3:=X3.cell;have zX30:=X3.frozen
 refine jn 4 fun K hK=>?_
 go_simp;refine hK.out _ _ ?_;clear hK K xX3 zX30;generalize hS:(((w2.setCell _ _).setCell _ _).setCell _ _).setCell _ _=w3 at *;have SX:=StN.of4 X3 hS;replace X4:=X4.s SX;replace XR:=XR.s SX;replace HB:=Hqs HB SX (by omega);replace X3:=SX.box;clear SX hS;have xX4:=X4.cell;have zX40:=X4.frozen
 refine jn 5 fun K hK=>?_
 go_simp;refine hK.out _ _ ?_;clear hK K xX4 zX40;generalize hS:(((w3.setCell _ _).setCell _ _).setCell _ _).setCell _ _=w4 at *;have SX:=StN.of4 X4 hS;replace X3:=X3.s SX;replace XR:=XR.s SX;replace HB:=Hqs HB SX (by omega);replace X4:=SX.box;clear SX hS;refine jd ?_;clear HX HY hM hM';have i1:=fq_inf q1
 have i2:=fq_inf q2;have z1:=q1.zero_iff;have z2:=q2.zero_iff;have d1:=q1.bd;have d2:=q2.bd
 have kk1:K1=2\/K1=0\/K1=1:=by rcases q1.cases with⟨h,_⟩ | ⟨h,_⟩ | ⟨h,_⟩ <;> omega
 have kk2:K2=2\/K2=0\/K2=1:=by rcases q2.cases with⟨h,_⟩ | ⟨h,_⟩ | ⟨h,_⟩ <;> omega
 rcases kk1 with rfl | rfl | rfl
 ·rcases kk2 with rfl | rfl | rfl
  ·have hnz:¬(x=0\/y=0):=fun c=>c.elim (fun c=>absurd (z1.2 c) (by decide)) (fun c=>absurd (z2.2 c) (by decide))
   have sx:decide (x < 0)=s1:=by
    rcases q1.three with⟨a,_⟩ | ⟨_,rfl,b⟩ | ⟨_,rfl,b⟩
    ·exact absurd a (by decide)
    ·exact df (by omega)
    ·exact dt b
   have sy:decide (y < 0)=s2:=by
    rcases q2.three with⟨a,_⟩ | ⟨_,rfl,b⟩ | ⟨_,rfl,b⟩
    ·exact absurd a (by decide)
    ·exact df (by omega)
    ·exact dt b
   rw[mulp_inf up hnz (.inl i1),sx,sy]at hr;have HRR:=ie hr;clear i1 i2 z1 z2 d1 d2 q1 q2 hr sx sy hnz;have xX3:=X3.cell;have xX4:=X4.cell
   go_wp2_with fail
   refine(nInf (s:=s1 !=s2) HRR.out).mono ?_;rintro ee w5 ⟨K3,s3,M3,E3,rfl,q3,B⟩;clear xX3 xX4;replace X3:=X3.b B;replace X4:=X4.b B;replace XR:=XR.b B;replace HB:=Hqb HB B;clear B;have xXR:=XR.cell;have zXR0:=XR.frozen;go_wp2;clear xXR zXR0;have SX:=StN.t4 XR K3 s3 M3 E3
   exact bq (by simp[results,Tryz.results117,go_sem,SX.box.cell]) rfl ⟨_,_,_,_,rfl,q3,(SX.below HB.out (by omega))⟩
  ·rw[mulp_zero up (.inr (z2.1 rfl))]at hr;subst hr;clear i1 i2 z1 z2 d1 d2 q1 q2;have xXR:=XR.cell;have zXR0:=XR.frozen;have xX3:=X3.cell;have xX4:=X4.cell;go_wp2;clear xXR zXR0 xX3 xX4;have SX:=StN.t4 XR 0 false 0 0;exact bq (by simp[results,Tryz.results117,go_sem,SX.box.cell]) rfl ⟨_,_,_,_,rfl,Fq.nought,(SX.below HB.out (by omega))⟩
  ·have hnz:¬(x=0\/y=0):=fun c=>c.elim (fun c=>absurd (z1.2 c) (by decide)) (fun c=>absurd (z2.2 c) (by decide))
   have sx:decide (x < 0)=s1:=by
    rcases q1.three with⟨a,_⟩ | ⟨_,rfl,b⟩ | ⟨_,rfl,b⟩
    ·exact absurd a (by decide)
    ·exact df (by omega)
    ·exact dt b
   have sy:decide (y < 0)=s2:=by
    rcases q2.three with⟨a,_⟩ | ⟨_,rfl,b⟩ | ⟨_,rfl,b⟩
    ·exact absurd a (by decide)
    ·exact df (by omega)
    ·exact dt b
   rw[mulp_inf up hnz (.inl i1),sx,sy]at hr;have HRR:=ie hr;clear i1 i2 z1 z2 d1 d2 q1 q2 hr sx sy hnz;have xX3:=X3.cell;have xX4:=X4.cell
   go_wp2_with fail
   refine(nInf (s:=s1 !=s2) HRR.out).mono ?_;rintro ee w5 ⟨K3,s3,M3,E3,rfl,q3,B⟩;clear xX3 xX4;replace X3:=X3.b B;replace X4:=X4.b B;replace XR:=XR.b B;replace HB:=Hqb HB B;clear B;have xXR:=XR.cell;have zXR0:=XR.frozen;go_wp2;clear xXR zXR0;have SX:=StN.t4 XR K3 s3 M3 E3
   exact bq (by simp[results,Tryz.results117,go_sem,SX.box.cell]) rfl ⟨_,_,_,_,rfl,q3,(SX.below HB.out (by omega))⟩
 ·rcases kk2 with rfl | rfl | rfl
  ·rw[mulp_zero up (.inl (z1.1 rfl))]at hr;subst hr;clear i1 i2 z1 z2 d1 d2 q1 q2;have xXR:=XR.cell;have zXR0:=XR.frozen;have xX3:=X3.cell;have xX4:=X4.cell;go_wp2;clear xXR zXR0 xX3 xX4;have SX:=StN.t4 XR 0 false 0 0;exact bq (by simp[results,Tryz.results117,go_sem,SX.box.cell]) rfl ⟨_,_,_,_,rfl,Fq.nought,(SX.below HB.out (by omega))⟩
  ·rw[mulp_zero up (.inl (z1.1 rfl))]at hr;subst hr;clear i1 i2 z1 z2 d1 d2 q1 q2;have xXR:=XR.cell;have zXR0:=XR.frozen;have xX3:=X3.cell;have xX4:=X4.cell;go_wp2;clear xXR zXR0 xX3 xX4;have SX:=StN.t4 XR 0 false 0 0;exact bq (by simp[results,Tryz.results117,go_sem,SX.box.cell]) rfl ⟨_,_,_,_,rfl,Fq.nought,(SX.below HB.out (by omega))⟩
  ·rw[mulp_zero up (.inl (z1.1 rfl))]at hr;subst hr;clear i1 i2 z1 z2 d1 d2 q1 q2;have xXR:=XR.cell;have zXR0:=XR.frozen;have xX3:=X3.cell;have xX4:=X4.cell;go_wp2;clear xXR zXR0 xX3 xX4;have SX:=StN.t4 XR 0 false 0 0;exact bq (by simp[results,Tryz.results117,go_sem,SX.box.cell]) rfl ⟨_,_,_,_,rfl,Fq.nought,(SX.below HB.out (by omega))⟩
 ·rcases kk2 with rfl | rfl | rfl
  ·have hnz:¬(x=0\/y=0):=fun c=>c.elim (fun c=>absurd (z1.2 c) (by decide)) (fun c=>absurd (z2.2 c) (by decide))
   have sx:decide (x < 0)=s1:=by
    rcases q1.three with⟨a,_⟩ | ⟨_,rfl,b⟩ | ⟨_,rfl,b⟩
    ·exact absurd a (by decide)
    ·exact df (by omega)
    ·exact dt b
   have sy:decide (y < 0)=s2:=by
    rcases q2.three with⟨a,_⟩ | ⟨_,rfl,b⟩ | ⟨_,rfl,b⟩
    ·exact absurd a (by decide)
    ·exact df (by omega)
    ·exact dt b
   rw[mulp_inf up hnz (.inr i2),sx,sy]at hr;have HRR:=ie hr;clear i1 i2 z1 z2 d1 d2 q1 q2 hr sx sy hnz;have xX3:=X3.cell;have xX4:=X4.cell
   go_wp2_with fail
   refine(nInf (s:=s1 !=s2) HRR.out).mono ?_;rintro ee w5 ⟨K3,s3,M3,E3,rfl,q3,B⟩;clear xX3 xX4;replace X3:=X3.b B;replace X4:=X4.b B;replace XR:=XR.b B;replace HB:=Hqb HB B;clear B;have xXR:=XR.cell;have zXR0:=XR.frozen;go_wp2;clear xXR zXR0;have SX:=StN.t4 XR K3 s3 M3 E3
   exact bq (by simp[results,Tryz.results117,go_sem,SX.box.cell]) rfl ⟨_,_,_,_,rfl,q3,(SX.below HB.out (by omega))⟩
  ·rw[mulp_zero up (.inr (z2.1 rfl))]at hr;subst hr;clear i1 i2 z1 z2 d1 d2 q1 q2;have xXR:=XR.cell;have zXR0:=XR.frozen;have xX3:=X3.cell;have xX4:=X4.cell;go_wp2;clear xXR zXR0 xX3 xX4;have SX:=StN.t4 XR 0 false 0 0;exact bq (by simp[results,Tryz.results117,go_sem,SX.box.cell]) rfl ⟨_,_,_,_,rfl,Fq.nought,(SX.below HB.out (by omega))⟩
  ·have HRR:=ie hr;clear i1 i2 z1 z2 d1 d2 hr;have xX3:=X3.cell;have xX4:=X4.cell
   go_wp2_with fail
   refine(aProduct q1 q2).mono ?_;rintro ee w5 ⟨s3,H3,L3,x3,rfl,p3,B⟩;clear xX3 xX4;replace XR:=XR.b B;replace HB:=Hqb HB B;clear B
   go_wp2_with fail
   refine(aRound p3 HRR.out).mono ?_;rintro ee w6 ⟨K4,s4,M4,E4,rfl,q4,B⟩;replace XR:=XR.b B;replace HB:=Hqb HB B;clear B;have xXR:=XR.cell;have zXR0:=XR.frozen;go_wp2;clear xXR zXR0;have SX:=StN.t4 XR K4 s4 M4 E4;exact bq (by simp[results,Tryz.results117,go_sem,SX.box.cell]) rfl ⟨_,_,_,_,rfl,q4,(SX.below HB.out (by omega))⟩
theorem aSub{w:World}{D D' M M' E E':Int}{s s':Bool}{up:Bool}{x y r:Int}(hT:Tb w)(hM:LQ M)(hM':LQ M')(hx:rk D s M E=x)(hy: -rk D' s' M' E'=y)(hr:addp up x y=r):Calls Tryz.prog 105 #[VQ D s M E,VQ D' s' M' E',.bool up] w (PN w r):=by
 delta VQ
 have HX:=ie hx;have HY:=ie hy;have HR:=ie hr;clear hx hy hr
 go_enter Tryz.func105,Tryz.ntmps105
 go_upto_region 1 with (fail)
 generalize hW1:((w.alloc _).alloc _).alloc _=w1 at *;obtain⟨X3,X4,XR,HB⟩:=Bo.en3 hW1;replace hT:=hT.below HB.out;clear hW1;refine jk [0,1,2,3,4] [some 7,some 8,some 9,some 10,some 11,none] [[],[],[1],[],[0,2,3],[]] 6 1 [Jo.q4 D s M E,Jo.q4 D' s' M' E',Jo.Fact.num y,Jo.qb up,Jo.Fact.num r,Jo.Fact.any] ?_ ?_
 ·iterate 2 (refine jm ?_ ?_;rotate_left)
  refine jm ?_ ?_
  ·rintro wj hJ _ rfl K hK;simp only[Jo.z]at hK|-;go_simp;exact Jo.n1 (nNeg hM' HY.out) hK.out
  refine jm ?_ ?_;rotate_left
  refine jm ?_ ?_
  ·rintro wj hJ _ rfl _ ⟨K4,s4,M4,E4,rfl,q4⟩ _ rfl K hK;simp only[Jo.z]at hK|-;go_simp;exact Jo.n1 (aAdd (hT.b hJ) hM q4.top HX.out q4.rk HR.out) hK.out
  exact jo
  all_goals (rintro wj hJ;(repeat rintro _ rfl);intro K hK;simp only[Jo.z]at hK|-;have xX3:=(X3.b hJ).cell;have xX4:=(X4.b hJ).cell;go_simp;exact hK.out _ _ rfl (br _ _))
 rintro w2 hJ _ rfl _ rfl _ ⟨K4,s4,M4,E4,rfl,q4⟩ _ rfl _ ⟨K5,s5,M5,E5,rfl,q5⟩ -;simp only[Jo.z];replace XR:=XR.b hJ;replace HB:=Hqb HB hJ;have xXR:=XR.cell;have zXR0:=XR.frozen
 refine jn 5 fun K hK=>?_
 go_simp;refine hK.out _ _ ?_;clear hK K xXR zXR0;have SX:=StN.t4 XR K5 s5 M5 E5;refine jd ?_;go_wp2;exact bq (by simp[results,Tryz.results105,go_sem,SX.box.cell]) rfl ⟨_,_,_,_,rfl,q5,(SX.below HB.out (by omega))⟩
def smA (up:Bool)(l:List Int):Int:=l.foldl (addp up) 0
theorem smA_take (up:Bool){l:List Int}{k:Nat}(h:k < l.length):smA up (l.take (k+1))=addp up (smA up (l.take k)) (l.getD k 0):=by
 unfold smA
 rw[List.take_succ_eq_append_getElem h,List.foldl_append]
 simp[List.getD_eq_getElem?_getD,h]
theorem aSum{w:World}{A:Option Addr}{n c:Nat}{l:List Int}{up:Bool}{r:Int}(hT:Tb w)(h:Nl w A n c l)(hr:smA up l=r):Calls Tryz.prog 112 #[.bool up,.slice A n c] w (PN w r):=by
 have HR:=ie hr;have HLn:=ie h.1;have hcap:=h.2.1;have hbig:=h.2.2.1;have hD0:=h;have hT0:=hT;clear hr
 go_enter Tryz.func112,Tryz.ntmps112
 go_upto_region 1 with (fail)
 generalize hW1:w.alloc _=w1 at *;obtain⟨XR,HB⟩:=Bo.en1 hW1;replace h:=h.below HB.out;replace hT:=hT.below HB.out;clear hW1
 go_upto_region 2 with (fail)
 have hg3:=XR.lt;have nX3XR:=XR.lt;generalize hWn:w1.alloc _=w3 at *;obtain⟨X3,BW⟩:=Bo.nw hWn;clear hWn;replace XR:=XR.b BW;replace h:=h.b BW;replace hT:=hT.b BW;replace HB:=Hqb HB BW;clear BW
 go_wp2_with fail
 generalize w1.heap.size=g3 at *;clear h hT w1
 go_loopw [11] (fun i wr=>∃k:Nat,k<=n/\i= .int .i64 k/\NInv w g3 (smA up (l.take k)) wr) (fun i _=>n-(intOf i).toNat)
 case atStart=>exact ⟨0,Nat.zero_le _,rfl,_,_,_,_,XR,X3,Fq.nought,HB.out⟩
 clear HB XR X3
 case round=>
  obtain⟨k,hk,rfl,hI⟩:=hrel;obtain⟨K1,s1,M1,E1,XR,X3,q1,hB⟩:=hI;have HB:=ie hB;have h:=hD0.below hB;have hT:=hT0.below hB;clear hB
  by_cases hlt:k < n
  ·obtain⟨b,o,rfl,hcell⟩:=h.2.2.2 (by omega);obtain⟨D,s,M,E,c0,c1,c2,c3,hM,hx⟩:=hcell k hlt;clear hcell h hD0
   have i1:(k:Int) < n:=by omega
   have i2:(0:Int)<=k:=by omega
   have hst:=smA_take up (l:=l) (k:=k) (by rw[HLn.out];exact hlt);rw[<-hx]at hst;generalize smA up (l.take k)=R at *;obtain⟨x,hX⟩:∃x,rk D s M E=x:=⟨_,rfl⟩;rw[hX]at hst;obtain⟨r2,hr2⟩:∃r2,addp up R x=r2:=⟨_,rfl⟩;rw[hr2]at hst;have HX:=ie hX;have HST:=ie hst;have HAD:=ie hr2;clear hst hX hx hr2
   go_upto_region 5 with (fail)
   have hgd:=X3.lt;have nX5XR:=XR.lt;have nX5X3:=X3.lt;generalize hWn:wr.alloc _=w3 at *;obtain⟨X5,BW⟩:=Bo.nw hWn;clear hWn;replace XR:=XR.b BW;replace X3:=X3.b BW;replace hT:=hT.b BW;replace HB:=Hqb HB BW;clear BW;clear c0 c1 c2 c3;have xX3:=X3.cell;have xX5:=X5.cell
   go_wp2_with fail
   refine(aAdd hT q1.top hM q1.rk HX.out HAD.out).mono ?_;rintro ee w4 ⟨K2,s2,M2,E2,rfl,q2,B⟩;clear xX3 xX5;replace XR:=XR.b B;replace X3:=X3.b B;replace HB:=Hqb HB B;clear B;have xX3:=X3.cell;have zX30:=X3.frozen
   go_upto_region 6 with (fail)
   clear xX3 zX30;generalize hS:(((w4.setCell _ _).setCell _ _).setCell _ _).setCell _ _=w5 at *;have SX:=StN.of4 X3 hS;replace XR:=XR.s SX;replace HB:=Hqs HB SX (by omega);replace X3:=SX.box;clear SX hS;go_wp2
   go_roundw
   case rel=>
    refine⟨k+1,by omega,by go_num,K2,s2,M2,E2,XR,X3,?_,HB.out⟩
    rw[HST.out];exact q2
   case measure=>simp [intOf];omega
  ·obtain rfl:k=n:=by omega
   rw[List.take_of_length_le (by rw[HLn.out];omega),HR.out]at q1;have xXR:=XR.cell;have zXR0:=XR.frozen;have xX3:=X3.cell;go_wp2;clear xXR zXR0 xX3;have SX:=StN.t4 XR K1 s1 M1 E1;exact bq (by simp[results,Tryz.results112,go_sem,SX.box.cell]) rfl ⟨_,_,_,_,rfl,q1,(SX.below HB.out (by omega))⟩
def Fz (x:Int)(h:Nat):Prop:=infp x=true\/Fit h (ep x)
theorem Fz.mono{x:Int}{h k:Nat}(f:Fz x h)(hk:h<=k):Fz x k:=f.imp id fun g=>g.mono hk
theorem Fz.zero (h:Nat):Fz 0 h:= .inr (by rw[ep_zero];exact Fit.zero h)
theorem rnd_fz{P:Int × Int}{h:Nat}(up:Bool)(hh:h<=100000)(f:Fit h P):Fz (rnd up P.1 P.2) (h+65):=by
 rcases f.nf.cases with e | ⟨h0,ho,e1,e2⟩
 ·subst e;rw[rnd_nought];exact Fz.zero _
 ·right
  have hm:P.1.natAbs≠0:=by omega
  have lo1:=f.lo
  have hb0:blen P.1.natAbs≠0:=fun e=>hm (blen_eq_zero.1 e)
  have hbl:blen P.1.natAbs-1+(P.2+(h:Int)).toNat < 2*h:=by
   have l1:=Nat.mul_le_mul_right (2^(P.2+(h:Int)).toNat) (blen_le hm);rw[<-Nat.pow_add]at l1;exact(Nat.pow_lt_pow_iff_right (by decide)).1 (Nat.lt_of_le_of_lt l1 f.2.2)
  have g1:=tp_ge hm;have g2:=tp_lt P.1.natAbs
  have hx:xp P.1.natAbs P.2=P.2+(blen P.1.natAbs:Nat)-64:=rfl
  have el:lo P.1.natAbs P.2=(tp P.1.natAbs:Int)-9223372036854775808+1+(xp P.1.natAbs P.2+1048576)*9223372036854775808:=by
   unfold lo
   rw[if_neg hm,if_neg (by omega),if_neg (by omega)]
  obtain⟨h1,h2⟩:=hi_bd P.1.natAbs P.2;obtain⟨s,hs⟩:∃s,s=decide (P.1 < 0):=⟨_,rfl⟩
  have hr:∃l,(rnd up P.1 P.2=sgi s l)/\lo P.1.natAbs P.2<=l/\l<=lo P.1.natAbs P.2+1:=by
   by_cases hu:s=up
   ·exact⟨_,rnd_same hs hu,by omega,by omega⟩
   ·have hu2:up=!s:=by cases s <;> cases up <;> first | rfl | exact absurd rfl hu
    exact⟨_,by rw[hu2];exact rnd_diff hs,h1,h2⟩
  obtain⟨l,er,l1,l2⟩:=hr;rw[el]at l1 l2;clear el h1 h2 hs
  have hab:((rnd up P.1 P.2).natAbs:Int)=l:=by
   rw[er,sgi_abs s (by omega)]
   omega
  revert hab
  generalize rnd up P.1 P.2=r
  intro hab
  unfold ep
  rw[if_neg (by omega)];obtain⟨M,hM⟩:∃M,((r.natAbs:Int)-1)%9223372036854775808+9223372036854775808=M:=⟨_,rfl⟩;obtain⟨E,hE⟩:∃E,((r.natAbs:Int)-1) /9223372036854775808-1048576=E:=⟨_,rfl⟩;rw[hM,hE]
  have b1:xp P.1.natAbs P.2<=E/\E<=xp P.1.natAbs P.2+1:=by omega
  have b2:0<=M/\M < 18446744073709551616:=by omega
  clear hM hE er l1 l2 hab;refine(mk_fit (h:=h+65) (by omega) (by omega) ?_).1;rw[sgi_abs _ b2.1]
  have:M.toNat < 2^64:=by omega
  have:=Nat.mul_lt_mul_of_pos_right this (Nat.pow_pos (n:=(E+((h+65:Nat):Int)).toNat) (show 0 < 2 by decide))
  rw[<-Nat.pow_add]at this;exact Nat.lt_of_lt_of_le this (Nat.pow_le_pow_right (by decide) (by omega))
theorem addp_fz{x y:Int}{h:Nat}(up:Bool)(hh:h<=90000)(fx:Fz x h)(fy:Fz y h):Fz (addp up x y) (h+66):=by
 cases hx:infp x
 ·cases hy:infp y
  ·rw[addp_ff up hx hy]
   rcases fx with fx | fx
   ·rw[hx]at fx;cases fx
   ·rcases fy with fy | fy
    ·rw[hy]at fy;cases fy
    ·exact rnd_fz up (by omega) (pl_fit (by omega) fx fy).1
  ·rw[addp_ft up hx hy];exact .inl hy
 ·cases hy:infp y
  ·rw[addp_tf up hx hy];exact .inl hx
  ·by_cases e:x=y
   ·rw[addp_same up hx e];exact .inl hx
   ·rw[addp_diff up hx hy e];exact .inl (fq_inf (Fq.inf _))
theorem dn_le_up{X r t:Int}(h:Dn X r)(k:Up X t):r<=t:=by
 obtain⟨h1,h2,h3,h4⟩:=h;obtain⟨k1,k2,k3,k4⟩:=k
 rcases Int.lt_or_le t r with q | q
 ·exfalso
  have a:=h3 (by omega);have b:=k3 (by omega);rw[vr_neg]at b
  have:=vr_lt q
  omega
 ·exact q
theorem addp_le{x y:Int}(x1: -19342822337206103650074625<=x)(x2:x<=19342822337206103650074625)(y1: -19342822337206103650074625<=y)(y2:y<=19342822337206103650074625):addp false x y<=addp true x y:=by
 have htp:=TP_eq
 cases hx:infp x <;> cases hy:infp y
 ·obtain⟨a1,a2⟩:=infp_false x1 x2 hx;obtain⟨b1,b2⟩:=infp_false y1 y2 hy;obtain⟨u,v⟩:=addp_spec (x:=x) (y:=y) true a1 a2 b1 b2;exact dn_le_up u v
 ·rw[addp_ft _ hx hy,addp_ft _ hx hy];exact Int.le_refl _
 ·rw[addp_tf _ hx hy,addp_tf _ hx hy];exact Int.le_refl _
 ·by_cases e:x=y
  ·rw[addp_same _ hx e,addp_same _ hx e];exact Int.le_refl _
  ·rw[addp_diff _ hx hy e,addp_diff _ hx hy e,show (!false)=true from rfl,show (!true)=false from rfl,wsg_f,wsg_t]
   omega
def DnQ (A B r:Int):Prop:= -19342822337206103650074625<=r/\r<=19342822337206103650074624/\(-19342822337206103650074625 < r->vr r*B<=A)/\(r < 19342822337206103650074624->A < vr (r+1)*B)
def UpQ (A B r:Int):Prop:=DnQ (-A) B (-r)
def Sid (up:Bool)(A B r:Int):Prop:=if up=true then UpQ A B r else DnQ A B r
theorem sid_f{A B r:Int}:Sid false A B r=DnQ A B r:=if_neg (by decide)
theorem sid_t{A B r:Int}:Sid true A B r=UpQ A B r:=if_pos rfl
theorem DnQ.mono{A B C D r t:Int}(hB:0 < B)(hD:0 < D)(h:DnQ A B r)(k:DnQ C D t)(hAC:A*D<=C*B):r<=t:=by
 obtain⟨h1,h2,h3,h4⟩:=h;obtain⟨k1,k2,k3,k4⟩:=k
 rcases Int.lt_or_le t r with q | q
 ·exfalso
  have a:=h3 (by omega);have b:=k4 (by omega)
  have c:vr (t+1)<=vr r:=vr_le (by omega)
  have a2:vr r*B*D<=A*D:=Int.mul_le_mul_of_nonneg_right a (Int.le_of_lt hD)
  have b2:C*B < vr (t+1)*D*B:=Int.mul_lt_mul_of_pos_right b hB
  have c2:vr (t+1)*(D*B)<=vr r*(D*B):=Int.mul_le_mul_of_nonneg_right c (Int.le_of_lt (Int.mul_pos hD hB))
  rw[Int.mul_assoc,Int.mul_comm B D]at a2;rw[Int.mul_assoc]at b2
  omega
 ·exact q
theorem DnQ.uniq{A B r t:Int}(hB:0 < B)(h:DnQ A B r)(k:DnQ A B t):r=t:=by
 have a:=h.mono hB hB k (Int.le_refl _);have b:=k.mono hB hB h (Int.le_refl _)
 omega
theorem Sid.uniq{up:Bool}{A B r t:Int}(hB:0 < B)(h:Sid up A B r)(k:Sid up A B t):r=t:=by
 cases up
 ·rw[sid_f]at h k;exact h.uniq hB k
 ·rw[sid_t]at h k
  have:=DnQ.uniq hB h k
  omega
theorem Sid.mono{up:Bool}{A B C D r t:Int}(hB:0 < B)(hD:0 < D)(h:Sid up A B r)(k:Sid up C D t)(hAC:A*D<=C*B):r<=t:=by
 cases up
 ·rw[sid_f]at h k;exact h.mono hB hD k hAC
 ·rw[sid_t]at h k
  have:=DnQ.mono hD hB k h (by rw[Int.neg_mul,Int.neg_mul];omega)
  omega
theorem Sid.neg{up:Bool}{A B r:Int}(h:Sid up A B r):Sid (!up) (-A) B (-r):=by
 cases up
 ·rw[sid_f]at h
  rw[show (!false)=true from rfl,sid_t]
  unfold UpQ
  rw[Int.neg_neg,Int.neg_neg];exact h
 ·rw[sid_t]at h
  rw[show (!true)=false from rfl,sid_f]
  exact h
theorem sid_sgi{s up:Bool}{A B r:Int}(h:Sid (up !=s) A B r):Sid up (sgi s A) B (sgi s r):=by
 cases s
 ·rw[wsg_f,wsg_f]
  cases up <;> exact h
 ·rw[wsg_t,wsg_t]
  have h2:Sid (!up) A B r:=by cases up <;> exact h
  have:=h2.neg
  rwa [Bool.not_not]at this
theorem Sid.bd{up:Bool}{A B r:Int}(h:Sid up A B r): -19342822337206103650074625<=r/\r<=19342822337206103650074625:=by
 cases up
 ·rw[sid_f]at h
  have:=h.1;have:=h.2.1
  omega
 ·rw[sid_t]at h
  have:=h.1;have:=h.2.1
  omega
theorem last_yes (p:Nat->Prop)(h0:p 0):∀n,¬p n->∃k,k < n/\p k/\¬p (k+1)
 | 0,h=>absurd h0 h
 | n+1,h=>by
  by_cases q:p n
  ·exact⟨n,Nat.lt_succ_self _,q,h⟩
  ·obtain⟨k,a,b,c⟩:=last_yes p h0 n q;exact⟨k,Nat.lt_succ_of_lt a,b,c⟩
theorem dnq_ex (A:Int){B:Int}(hB:0 < B):∃r,DnQ A B r:=by
 obtain⟨n,hn⟩:∃n:Nat,(n:Int)=38685644674412207300149250:=⟨38685644674412207300149250,rfl⟩
 obtain⟨k,hk,a,b⟩:=last_yes (fun k=>k=0\/((k:Int)<=38685644674412207300149249/\vr ((k:Int)-19342822337206103650074625)*B<=A)) (.inl rfl) n (by omega)
 refine⟨(k:Int)-19342822337206103650074625,by omega,by omega,fun h=>?_,fun h=>?_⟩
 ·rcases a with a | a
  ·omega
  ·exact a.2
 ·have c:¬vr (((k+1:Nat):Int)-19342822337206103650074625)*B<=A:=fun c=>b (.inr ⟨by omega,c⟩)
  rw[show ((k+1:Nat):Int)-19342822337206103650074625=(k:Int)-19342822337206103650074625+1 by omega]at c
  omega
theorem sid_ex (up:Bool)(A:Int){B:Int}(hB:0 < B):∃r,Sid up A B r:=by
 cases up
 ·obtain⟨r,h⟩:=dnq_ex A hB;exact⟨r,by rw[sid_f];exact h⟩
 ·obtain⟨r,h⟩:=dnq_ex (-A) hB;refine⟨-r,?_⟩;rw[sid_t]
  unfold UpQ
  rw[Int.neg_neg];exact h
theorem DnQ.of_dn{X A B a b r:Int}(hB:0 < B)(h:Dn X r)(h1:a < X)(h2:X < b)(h3:a*B < A)(h4:A < b*B)(hs:∀s,¬(a < vr s/\vr s < b)):DnQ A B r:=by
 obtain⟨d1,d2,d3,d4⟩:=h
 refine⟨d1,d2,fun k=>?_,fun k=>?_⟩
 ·have e:=d3 k;have n:=hs r
  have l:vr r<=a:=by omega
  have:=Int.mul_le_mul_of_nonneg_right l (Int.le_of_lt hB)
  omega
 ·have e:=d4 k;have n:=hs (r+1)
  have l:b<=vr (r+1):=by omega
  have:=Int.mul_le_mul_of_nonneg_right l (Int.le_of_lt hB)
  omega
theorem DnQ.of_eq{X A B r:Int}(hB:0 < B)(h:Dn X r)(e:X*B=A):DnQ A B r:=by
 obtain⟨d1,d2,d3,d4⟩:=h;subst e
 exact⟨d1,d2,fun k=>Int.mul_le_mul_of_nonneg_right (d3 k) (Int.le_of_lt hB),fun k=>Int.mul_lt_mul_of_pos_right (d4 k) hB⟩
theorem sid_of{P:Int × Int}{A B a b:Int}(up:Bool)(hP:Nf P)(hB:0 < B)(h1:a < vl P)(h2:vl P < b)(h3:a*B < A)(h4:A < b*B)(hs:∀s,¬(a < vr s/\vr s < b)):Sid up A B (rnd up P.1 P.2):=by
 obtain⟨p1,p2⟩:=rnd_spec hP
 cases up
 ·rw[sid_f];exact DnQ.of_dn hB p1 h1 h2 h3 h4 hs
 ·rw[sid_t]
  refine DnQ.of_dn (a:= -b) (b:= -a) hB p2 (by omega) (by omega) (by rw[Int.neg_mul];omega) (by rw[Int.neg_mul];omega) (fun s=>?_)
  have:=hs (-s)
  rw[vr_neg]at this
  omega
theorem sid_eq{P:Int × Int}{A B:Int}(up:Bool)(hP:Nf P)(hB:0 < B)(e:vl P*B=A):Sid up A B (rnd up P.1 P.2):=by
 obtain⟨p1,p2⟩:=rnd_spec hP
 cases up
 ·rw[sid_f];exact DnQ.of_eq hB p1 e
 ·rw[sid_t];exact DnQ.of_eq hB p2 (by rw[Int.neg_mul];omega)
theorem no_placeQ{i:Int}{u:Nat}(hi:9223372036854775808<=i)(s:Int):¬(2*i*2^u < vr s/\vr s < (2*i+2)*2^u):=by
 rintro ⟨h1,h2⟩;have hu:=p2pos u
 have hpos:0 < vr s:=Int.lt_of_le_of_lt (Int.mul_nonneg (by omega) (Int.le_of_lt hu)) h1
 have hs:0 < s:=by
  rcases Int.lt_or_le 0 s with q | q
  ·exact q
  ·exfalso
   have:=vr_le q
   rw[show vr 0=0 from rfl]at this
   omega
 have e0:vr s=((s-1)%9223372036854775808+9223372036854775808)*2^((s-1) /9223372036854775808-1048576+KK).toNat:=by
  unfold vr vp
  rw[if_neg (by omega),if_neg (by omega)]
 obtain⟨M,hM⟩:∃M,(s-1)%9223372036854775808+9223372036854775808=M:=⟨_,rfl⟩;obtain⟨t,ht⟩:∃t,((s-1) /9223372036854775808-1048576+(KK:Int)).toNat=t:=⟨_,rfl⟩;rw[hM,ht]at e0
 have hMl:M < 18446744073709551616:=by omega
 rw[e0]at h1 h2;clear e0 hM ht hs hpos
 rcases Nat.lt_or_ge u t with q | q
 ·obtain⟨d,rfl⟩:∃d,t=u+1+d:=⟨t-(u+1),by omega⟩
  have e1:M*2^(u+1+d)=M*2^d*2*2^u:=by
   rw[Int.pow_add,Int.pow_succ];generalize (2:Int)^u=U;generalize (2:Int)^d=D;rw[Int.mul_assoc M D 2,Int.mul_assoc M,Int.mul_comm U 2,Int.mul_comm (2*U) D,Int.mul_assoc D 2 U]
  rw[e1]at h1 h2;have a1:=Int.lt_of_mul_lt_mul_right h1 (Int.le_of_lt hu);have a2:=Int.lt_of_mul_lt_mul_right h2 (Int.le_of_lt hu)
  omega
 ·obtain⟨d,rfl⟩:∃d,u=t+d:=⟨u-t,by omega⟩
  have ht:=p2pos t;have hd:=p2pos d;rw[Int.pow_add]at h1
  have l1:(2:Int)^t*1<=2^t*2^d:=Int.mul_le_mul_of_nonneg_left hd (Int.le_of_lt ht)
  rw[Int.mul_one]at l1
  have l2:2*i*(2:Int)^t<=2*i*(2^t*2^d):=Int.mul_le_mul_of_nonneg_left l1 (by omega)
  have a1:=Int.lt_of_mul_lt_mul_right (Int.lt_of_le_of_lt l2 h1) (Int.le_of_lt ht)
  omega
theorem mk_vlB{z e:Int}(h:z.natAbs < 2^500000)(h1: -3000000<=e)(h2:e<=3000000):vl (mk z e)=z*2^(e+KK).toNat:=by
 obtain⟨η,hη⟩:∃η:Nat,η=4000000:=⟨_,rfl⟩;refine(mk_fit (h:=η) (by omega) (by omega) ?_).2;obtain⟨κ,hκ⟩:∃κ:Nat,κ=500000:=⟨_,rfl⟩;rw[<-hκ]at h
 have:=Nat.mul_lt_mul_of_pos_right h (Nat.pow_pos (n:=(e+(η:Int)).toNat) (show 0 < 2 by decide))
 rw[<-Nat.pow_add]at this;exact Nat.lt_of_lt_of_le this (Nat.pow_le_pow_right (by decide) (by omega))
def stk (q r:Nat):Nat:=2*q+if r=0 then 0 else 1
theorem quo_side{α β:Nat}{e:Int}{n κ:Nat}(up:Bool)(hβ:0 < β)(hq0:α≠0->9223372036854775808<=α*2^n/β)(hκ:κ=500000)(hs:stk (α*2^n/β) (α*2^n%β) < 2^κ)(h1: -2900000<=e-n)(h2:e<=2900000):
  Sid up ((α:Int)*2^(e+KK).toNat) (β:Int) (rnd up (mk ((stk (α*2^n/β) (α*2^n%β):Nat):Int) (e-n-1)).1 (mk ((stk (α*2^n/β) (α*2^n%β):Nat):Int) (e-n-1)).2):=by
 have hk:=KK_eq
 have hb0:(0:Int) < (β:Int):=by omega
 have nf:=mk_nf ((stk (α*2^n/β) (α*2^n%β):Nat):Int) (e-n-1);have ev:=mk_vlB (z:=((stk (α*2^n/β) (α*2^n%β):Nat):Int)) (e:=e-n-1) (by rw[Int.natAbs_natCast,<-hκ];exact hs) (by omega) (by omega);obtain⟨u,hu⟩:∃u:Nat,(e-n-1+(KK:Int)).toNat=u:=⟨_,rfl⟩
 have e1:(e+(KK:Int)).toNat=n+(1+u):=by omega
 rw[hu]at ev
 rw[e1,Int.pow_add,Int.pow_add,show (2:Int)^1=2 from rfl,<-Int.mul_assoc]
 have hd:=Nat.div_add_mod (α*2^n) β;have hm:=Nat.mod_lt (α*2^n) hβ;have hpu:=p2pos u
 have hcast:((α*2^n:Nat):Int)=(α:Int)*2^n:=by push_cast;rfl
 by_cases ha:α=0
 ·subst ha
  have e2:stk (0*2^n/β) (0*2^n%β)=0:=by
   rw[Nat.zero_mul,Nat.zero_div,Nat.zero_mod]
   rfl
  rw[e2]at ev nf|-;refine sid_eq up nf hb0 ?_;rw[ev]
  show (((0:Nat):Int))*2^u*(β:Int)=((0:Nat):Int)*2^n*(2*2^u)
  rw[show (((0:Nat):Int))=0 from rfl,Int.zero_mul,Int.zero_mul,Int.zero_mul,Int.zero_mul]
 ·have hq:=hq0 ha;clear hq0;clear hs;rw[<-hcast];clear hcast;generalize α*2^n=X at ev nf hd hm hq|-;generalize X/β=q at ev nf hd hq|-;generalize X%β=r at ev nf hd hm|-
  have hdI:(β:Int)*(q:Int)+(r:Int)=(X:Int):=by exact_mod_cast hd
  by_cases hr:r=0
  ·have e3:stk q r=2*q:=by
    unfold stk
    rw[if_pos hr]
    omega
   rw[e3]at ev nf|-;refine sid_eq up nf hb0 ?_;rw[ev,<-hdI,hr]
   show (((2*q:Nat)):Int)*2^u*(β:Int)=((β:Int)*(q:Int)+((0:Nat):Int))*(2*2^u)
   push_cast
   generalize (2:Int)^u=U;rw[Int.add_zero,Int.mul_assoc,Int.mul_comm U,Int.mul_assoc 2,<-Int.mul_assoc (q:Int),Int.mul_comm (q:Int),Int.mul_left_comm]
  ·have e3:stk q r=2*q+1:=by
    unfold stk
    rw[if_neg hr]
   rw[e3]at ev nf|-
   have c1:(((2*q+1:Nat)):Int)=2*(q:Int)+1:=by omega
   have c2:(2*(q:Int)*2^u)*(β:Int)=(β:Int)*(q:Int)*(2*2^u):=by
    generalize (2:Int)^u=U;rw[Int.mul_right_comm,Int.mul_comm 2 (q:Int),Int.mul_assoc (q:Int) 2,Int.mul_comm 2 (β:Int),<-Int.mul_assoc (q:Int),Int.mul_comm (q:Int),Int.mul_assoc]
   have c3:((2*(q:Int)+2)*2^u)*(β:Int)=((β:Int)*(q:Int)+(β:Int))*(2*2^u):=by
    rw[show 2*(q:Int)+2=2*((q:Int)+1) by omega,show (β:Int)*(q:Int)+(β:Int)=(β:Int)*((q:Int)+1) by rw[Int.mul_add,Int.mul_one]]
    generalize (2:Int)^u=U;generalize (q:Int)+1=p;rw[Int.mul_right_comm,Int.mul_comm 2 p,Int.mul_assoc p 2,Int.mul_comm 2 (β:Int),<-Int.mul_assoc p,Int.mul_comm p,Int.mul_assoc]
   have h2u:(0:Int) < 2*2^u:=by omega
   refine sid_of up nf hb0 (a:=2*(q:Int)*2^u) (b:=(2*(q:Int)+2)*2^u) ?_ ?_ ?_ ?_ (no_placeQ (by omega))
   ·rw[ev,c1];exact Int.mul_lt_mul_of_pos_right (by omega) hpu
   ·rw[ev,c1];exact Int.mul_lt_mul_of_pos_right (by omega) hpu
   ·rw[c2];exact Int.mul_lt_mul_of_pos_right (by omega) h2u
   ·rw[c3];exact Int.mul_lt_mul_of_pos_right (by omega) h2u
theorem sid_exact{up:Bool}{A B r:Int}(hB:0 < B)(h1: -19342822337206103650074625 < r)(h2:r < 19342822337206103650074625)(e:vr r*B=A):Sid up A B r:=by
 cases up
 ·rw[sid_f];exact DnQ.of_eq hB (dn_self h1 h2) e
 ·rw[sid_t];refine DnQ.of_eq hB (dn_self (r:= -r) (by omega) (by omega)) ?_;rw[vr_neg,Int.neg_mul,e]
theorem sid_two{A B r t:Int}(hB:0 < B)(h:Sid false A B r)(k:Sid true A B t):(t=r/\vr r*B=A/\ -19342822337206103650074625 < r/\r < 19342822337206103650074625)\/(t=r+1/\(-19342822337206103650074625 < r->vr r*B < A)/\(t < 19342822337206103650074625->A < vr t*B)):=by
 rw[sid_f]at h;rw[sid_t]at k;obtain⟨h1,h2,h3,h4⟩:=h;obtain⟨k1,k2,k3,k4⟩:=k
 have k3':t < 19342822337206103650074625->A<=vr t*B:=fun c=>by
  have:=k3 (by omega)
  rw[vr_neg,Int.neg_mul]at this
  omega
 have k4': -19342822337206103650074624 < t->vr (t-1)*B < A:=fun c=>by
  have:=k4 (by omega)
  rw[show -t+1= -(t-1) by omega,vr_neg,Int.neg_mul]at this
  omega
 have mul_le:∀a b:Int,a<=b->vr a*B<=vr b*B:=fun a b c=>Int.mul_le_mul_of_nonneg_right (vr_le c) (Int.le_of_lt hB)
 have hrt:r<=t:=by
  rcases Int.lt_or_le t r with q | q
  ·exfalso
   have a:=h3 (by omega);have b:=k3' (by omega)
   have c:vr t*B < vr r*B:=Int.mul_lt_mul_of_pos_right (vr_lt q) hB
   omega
  ·exact q
 have htr:t<=r+1:=by
  rcases Int.lt_or_le (r+1) t with q | q
  ·exfalso
   have a:=h4 (by omega);have b:=k4' (by omega);have c:=mul_le (r+1) (t-1) (by omega)
   omega
  ·exact q
 by_cases e:t=r
 ·subst e
  left
  have a:=h3 (by omega);have b:=k3' (by omega);exact⟨rfl,by omega,by omega,by omega⟩
 ·right
  have e2:t=r+1:=by omega
  refine⟨e2,fun c=>?_,fun c=>?_⟩
  ·have:=k4' (by omega)
   rw[e2,show r+1-1=r by omega]at this
   exact this
  ·have:=h4 (by omega)
   rw[<-e2]at this;exact this
def Qt (up:Bool)(x y r:Int):Prop:=
 if y=0 then r=sgi (!up) TP else if x=0\/infp y=true then r=0 else if infp x=true then r=sgi (decide (x < 0) !=decide (y < 0)) TP else Sid up (sgi (decide (y < 0)) (vr x)*2^KK) (sgi (decide (y < 0)) (vr y)) r
theorem qt_none{up:Bool}{x r:Int}(h:r=sgi (!up) TP):Qt up x 0 r:=by
 unfold Qt
 rw[if_pos rfl];exact h
theorem qt_zero{up:Bool}{x y r:Int}(hy:y≠0)(h:x=0\/infp y=true):Qt up x y r↔r=0:=by
 unfold Qt
 rw[if_neg hy,if_pos h]
theorem qt_none'{up:Bool}{x r:Int}:Qt up x 0 r↔r=sgi (!up) TP:=by
 unfold Qt
 rw[if_pos rfl]
theorem qt_inf{up:Bool}{x y r:Int}(hy:y≠0)(h:¬(x=0\/infp y=true))(hx:infp x=true):Qt up x y r↔r=sgi (decide (x < 0) !=decide (y < 0)) TP:=by
 unfold Qt
 rw[if_neg hy,if_neg h,if_pos hx]
theorem qt_fin{up:Bool}{x y r:Int}(hy:y≠0)(h:¬(x=0\/infp y=true))(hx:infp x=false):Qt up x y r↔Sid up (sgi (decide (y < 0)) (vr x)*2^KK) (sgi (decide (y < 0)) (vr y)) r:=by
 unfold Qt
 rw[if_neg hy,if_neg h,if_neg (by rw[hx];exact ff)]
theorem sg_vr_pos{y:Int}(hy:y≠0):0 < sgi (decide (y < 0)) (vr y):=by
 by_cases c:y < 0
 ·rw[dt c,wsg_t]
  have:=vr_pos (x:= -y) (by omega)
  rw[vr_neg]at this;exact this
 ·rw[df c,wsg_f];exact vr_pos (by omega)
theorem qt_ex (up:Bool)(x y:Int):∃r,Qt up x y r:=by
 by_cases hy:y=0
 ·subst hy;exact⟨_,qt_none rfl⟩
 ·by_cases h:x=0\/infp y=true
  ·exact⟨0,(qt_zero hy h).2 rfl⟩
  ·cases hx:infp x
   ·obtain⟨r,hr⟩:=sid_ex up (sgi (decide (y < 0)) (vr x)*2^KK) (sg_vr_pos hy);exact⟨r,(qt_fin hy h hx).2 hr⟩
   ·exact⟨_,(qt_inf hy h hx).2 rfl⟩
theorem Qt.uniq{up:Bool}{x y r t:Int}(h:Qt up x y r)(k:Qt up x y t):r=t:=by
 by_cases hy:y=0
 ·subst hy;rw[qt_none'.1 h,qt_none'.1 k]
 ·by_cases h0:x=0\/infp y=true
  ·rw[(qt_zero hy h0).1 h,(qt_zero hy h0).1 k]
  ·cases hx:infp x
   ·exact((qt_fin hy h0 hx).1 h).uniq (sg_vr_pos hy) ((qt_fin hy h0 hx).1 k)
   ·rw[(qt_inf hy h0 hx).1 h,(qt_inf hy h0 hx).1 k]
theorem Qt.bd{up:Bool}{x y r:Int}(h:Qt up x y r): -19342822337206103650074625<=r/\r<=19342822337206103650074625:=by
 have htp:=TP_eq
 have sg:∀s,-19342822337206103650074625<=sgi s TP/\sgi s TP<=19342822337206103650074625:=fun s=>by
  rcases sgT s with e | e <;> rw[e] <;> omega
 by_cases hy:y=0
 ·subst hy;rw[qt_none'.1 h];exact sg _
 ·by_cases h0:x=0\/infp y=true
  ·rw[(qt_zero hy h0).1 h]
   decide
  ·cases hx:infp x
   ·exact((qt_fin hy h0 hx).1 h).bd
   ·rw[(qt_inf hy h0 hx).1 h];exact sg _
theorem sgi_sgi (s:Bool)(x:Int):sgi s (sgi s x)=x:=by
 cases s
 ·rw[wsg_f,wsg_f]
 ·rw[wsg_t,wsg_t,Int.neg_neg]
theorem qt_self{up:Bool}{x:Int}(h0:x≠0)(h1: -19342822337206103650074625 < x)(h2:x < 19342822337206103650074625):Qt up x x (opl 1):=by
 have o:=opl_pos (n:=1) (by decide) (by decide);have ov:=opl_vr (n:=1) (by decide) (by decide);have hi:=infp_fin h1 h2
 have hn:¬(x=0\/infp x=true):=by
  rw[hi];rintro (c | c)
  ·exact h0 c
  ·cases c
 refine(qt_fin h0 hn hi).2 (sid_exact (sg_vr_pos h0) (by omega) o.2 ?_);rw[ov,Int.one_mul,Int.mul_comm]
theorem qt_negs{up:Bool}{x y r:Int}(hy:y≠0)(h:Qt up x y r):Qt up (-x) (-y) r:=by
 have hy': -y≠0:=by omega
 by_cases h0:x=0\/infp y=true
 ·rw[(qt_zero hy h0).1 h]
  exact(qt_zero hy' (h0.imp (fun e=>by omega) (fun e=>by rw[infp_neg];exact e))).2 rfl
 ·have h0':¬(-x=0\/infp (-y)=true):=fun c=>h0 (c.imp (fun e=>by omega) (fun e=>by rw[infp_neg]at e;exact e))
  cases hx:infp x
  ·refine(qt_fin hy' h0' (by rw[infp_neg];exact hx)).2 ?_
   have:=(qt_fin hy h0 hx).1 h
   have e:∀z,sgi (decide (-y < 0)) (vr (-z))=sgi (decide (y < 0)) (vr z):=fun z=>by
    rw[neg_sign hy,vr_neg]
    cases decide (y < 0)
    ·rw[show (!false)=true from rfl,wsg_t,wsg_f,Int.neg_neg]
    ·rw[show (!true)=false from rfl,wsg_t,wsg_f]
   rw[e,e];exact this
  ·refine(qt_inf hy' h0' (by rw[infp_neg];exact hx)).2 ?_
   rw[(qt_inf hy h0 hx).1 h,neg_sign (fun e=>h0 (.inl e)),neg_sign hy]
   cases decide (x < 0) <;> cases decide (y < 0) <;> rfl
def Rt (up:Bool)(X r:Int):Prop:=
 if up=true then 0 < r/\r<=19342822337206103650074625/\(r < 19342822337206103650074625->X<=vr r*vr r)/\vr (r-1)*vr (r-1) < X
 else 0<=r/\r<=19342822337206103650074624/\vr r*vr r<=X/\(r < 19342822337206103650074624->X < vr (r+1)*vr (r+1))
theorem rt_f{X r:Int}:Rt false X r↔(0<=r/\r<=19342822337206103650074624/\vr r*vr r<=X/\(r < 19342822337206103650074624->X < vr (r+1)*vr (r+1))):=by
 unfold Rt
 rw[if_neg ff]
theorem rt_t{X r:Int}:Rt true X r↔(0 < r/\r<=19342822337206103650074625/\(r < 19342822337206103650074625->X<=vr r*vr r)/\vr (r-1)*vr (r-1) < X):=by
 unfold Rt
 rw[if_pos rfl]
theorem sq_le{a b:Int}(h0:0<=a)(h:a<=b):a*a<=b*b:=Int.mul_le_mul h h h0 (by omega)
theorem vr_sq{r t:Int}(h0:0<=r)(h:r<=t):vr r*vr r<=vr t*vr t:=sq_le (vr_nn h0) (vr_le h)
theorem Rt.uniq{up:Bool}{X r t:Int}(h:Rt up X r)(k:Rt up X t):r=t:=by
 have key:∀{r t},Rt up X r->Rt up X t->¬r < t:=by
  intro r t h k c
  cases up
  ·obtain⟨h1,h2,h3,h4⟩:=rt_f.1 h;obtain⟨k1,k2,k3,k4⟩:=rt_f.1 k;have a:=h4 (by omega);have b:=vr_sq (r:=r+1) (t:=t) (by omega) (by omega)
   omega
  ·obtain⟨h1,h2,h3,h4⟩:=rt_t.1 h;obtain⟨k1,k2,k3,k4⟩:=rt_t.1 k;have a:=h3 (by omega);have b:=vr_sq (r:=r) (t:=t-1) (by omega) (by omega)
   omega
 have a:=key h k;have b:=key k h
 omega
theorem rnd_sgi{σ up:Bool}{z e:Int}:rnd up (mk (sgi σ z) e).1 (mk (sgi σ z) e).2=sgi σ (rnd (up !=σ) (mk z e).1 (mk z e).2):=by
 cases σ
 ·rw[wsg_f,wsg_f]
  cases up <;> rfl
 ·rw[wsg_t,wsg_t,mk_neg];have h:=rnd_turn (mk_nf z e) (!up);rw[Bool.not_not]at h;rw[h]
  cases up <;> rfl
theorem Sid.cross{up:Bool}{A B C D r:Int}(hB:0 < B)(hD:0 < D)(h:Sid up A B r)(e:A*D=C*B):Sid up C D r:=by
 obtain⟨t,ht⟩:=sid_ex up C hD;have a:=h.mono hB hD ht (Int.le_of_eq e);have b:=ht.mono hD hB h (Int.le_of_eq e.symm)
 have c:r=t:=by omega
 rw[c];exact ht
def Rq (up:Bool)(z y r:Int):Prop:=if y=0 then r=sgi (!up) TP else Sid up (sgi (decide (y < 0)) z*2^KK) (sgi (decide (y < 0)) y) r
theorem rq_none{up:Bool}{z r:Int}:Rq up z 0 r↔r=sgi (!up) TP:=by
 unfold Rq
 rw[if_pos rfl]
theorem rq_some{up:Bool}{z y r:Int}(hy:y≠0):Rq up z y r↔Sid up (sgi (decide (y < 0)) z*2^KK) (sgi (decide (y < 0)) y) r:=by
 unfold Rq
 rw[if_neg hy]
theorem sg_pos{y:Int}(hy:y≠0):0 < sgi (decide (y < 0)) y:=by
 by_cases c:y < 0
 ·rw[dt c,wsg_t];omega
 ·rw[df c,wsg_f];omega
theorem rq_ex (up:Bool)(z y:Int):∃r,Rq up z y r:=by
 by_cases hy:y=0
 ·subst hy;exact⟨_,rq_none.2 rfl⟩
 ·obtain⟨r,hr⟩:=sid_ex up (sgi (decide (y < 0)) z*2^KK) (sg_pos hy);exact⟨r,(rq_some hy).2 hr⟩
theorem Rq.uniq{up:Bool}{z y r t:Int}(h:Rq up z y r)(k:Rq up z y t):r=t:=by
 by_cases hy:y=0
 ·subst hy;rw[rq_none.1 h,rq_none.1 k]
 ·exact((rq_some hy).1 h).uniq (sg_pos hy) ((rq_some hy).1 k)
theorem Rq.mono{up:Bool}{z y z' y' r t:Int}(hy:0 < y)(hy':0 < y')(h:Rq up z y r)(k:Rq up z' y' t)(hle:z*y'<=z'*y):r<=t:=by
 have a:=(rq_some (by omega)).1 h;have b:=(rq_some (by omega)).1 k;rw[df (by omega),wsg_f,wsg_f]at a b;refine a.mono hy hy' b ?_
 have:=Int.mul_le_mul_of_nonneg_right hle (Int.le_of_lt (p2pos KK))
 rw[Int.mul_right_comm z,Int.mul_right_comm z'];exact this
theorem rq_of{up s t:Bool}{α β:Nat}{r:Int}(hβ:0 < β)(h:Sid up (sgi (s !=t) ((α:Int)*2^(0+(KK:Int)).toNat)) (β:Int) r):Rq up (sgi s (α:Int)) (sgi t (β:Int)) r:=by
 have hy:sgi t (β:Int)≠0:=by
  cases t
  ·rw[wsg_f];omega
  ·rw[wsg_t];omega
 refine(rq_some hy).2 ?_
 have ht:decide (sgi t (β:Int) < 0)=t:=by
  cases t
  ·rw[wsg_f];exact df (by omega)
  ·rw[wsg_t];exact dt (by omega)
 rw[ht,sgi_sgi]
 have e:sgi t (sgi s (α:Int))*2^KK=sgi (s !=t) ((α:Int)*2^(0+(KK:Int)).toNat):=by
  rw[show (0+(KK:Int)).toNat=KK by omega,<-sgi_mul]
  congr 1
  cases s <;> cases t
  ·rfl
  ·rfl
  ·rfl
  ·rw[show (true !=true)=false from rfl,wsg_f,wsg_t,wsg_t,Int.neg_neg]
 rw[e];exact h
theorem div_side{up s t:Bool}{M1 E1 M2 E2 x y:Int}{α β v w:Nat}{r:Int}(q1:Fq 1 s M1 E1 x)(q2:Fq 1 t M2 E2 y)(hM1:M1=(α:Int)*2^v)(hM2:M2=(β:Int)*2^w)(hβ:0 < β)(hv:v < 64)(hw:w < 64)
  (h:Sid up (sgi (s !=t) ((α:Int)*2^(E1-E2+v-w+(KK:Int)).toNat)) (β:Int) r):Qt up x y r:=by
 obtain⟨a1,a2,a3,a4,a5,a6,a7,a8,a9⟩:=fq_vr q1;obtain⟨b1,b2,b3,b4,b5,b6,b7,b8,b9⟩:=fq_vr q2;have hk:=KK_eq;have ix:=infp_fin a5 a6;have iy:=infp_fin b5 b6
 refine(qt_fin b7 (by rw[iy];rintro (c | c);exact a7 c;cases c) ix).2 ?_
 rw[b9,a8,b8,sgi_sgi]
 have hB:(0:Int) < M2*2^(E2+KK).toNat:=Int.mul_pos (by omega) (p2pos _)
 refine h.cross (by omega) hB ?_
 have e1:sgi t (sgi s (M1*2^(E1+(KK:Int)).toNat))=sgi (s !=t) (M1*2^(E1+(KK:Int)).toNat):=by
  cases s <;> cases t
  ·rfl
  ·rfl
  ·rfl
  ·rw[show (true !=true)=false from rfl,wsg_f,wsg_t,wsg_t,Int.neg_neg]
 rw[e1,sgi_mul,sgi_mul,sgi_mul]
 congr 1
 rw[hM1,hM2]
 have p1:(2:Int)^(E1-E2+v-w+(KK:Int)).toNat*(2^w*2^(E2+(KK:Int)).toNat)=2^v*2^(E1+(KK:Int)).toNat*2^KK:=by
  rw[<-Int.pow_add,<-Int.pow_add,<-Int.pow_add,<-Int.pow_add]
  congr 1
  omega
 have four:∀α β a b c d e f:Int,a*(b*c)=d*e*f->α*a*(β*b*c)=α*d*e*f*β:=fun α β a b c d e f h=>by
  have h1:α*a*(β*b*c)=α*β*(a*(b*c)):=by
   rw[Int.mul_assoc β b c,Int.mul_assoc α a,<-Int.mul_assoc a β,Int.mul_comm a β,Int.mul_assoc β a,<-Int.mul_assoc α β]
  have h2:α*d*e*f*β=α*β*(d*e*f):=by
   rw[Int.mul_assoc α d e,Int.mul_assoc α (d*e) f,Int.mul_right_comm α]
  rw[h1,h2,h]
 exact four _ _ _ _ _ _ _ _ p1
end Go.Proofs.YtomikokonmikgaaGreatDoor
namespace Go.Proofs.YtomikokonmikgaaGreatDoor
open Go Go.RowKit
set_option linter.unusedVariables false
abbrev SC:Int:=6277101735386680763835789423207666416102355444464034512896
def invG (n:Int):Nat->Nat->Int->Int->Int × Nat
 | 0,k,s,_=>(s,k)
 | f+1,k,s,p=>if SC/ (p*(2*(k:Int)+1))=0 then (s,k)else invG n f (k+1) (if k%2=1 then s+ -(SC/ (p*(2*(k:Int)+1)))else s+SC/ (p*(2*(k:Int)+1))) (p*(n*n))
def invN (n:Nat):Nat->Nat->Nat->Nat->Nat->Nat × Nat × Nat
 | 0,k,a,b,_=>(a,b,k)
 | f+1,k,a,b,p=>if 6277101735386680763835789423207666416102355444464034512896/ (p*(2*k+1))=0 then (a,b,k)else
   if k%2=1 then invN n f (k+1) a (b+6277101735386680763835789423207666416102355444464034512896/ (p*(2*k+1))) (p*(n*n))else invN n f (k+1) (a+6277101735386680763835789423207666416102355444464034512896/ (p*(2*k+1))) b (p*(n*n))
theorem div_cast (c p k:Nat):(c:Int) / ((p:Int)*(2*(k:Int)+1))=((c/ (p*(2*k+1)):Nat):Int):=by push_cast;rfl
theorem invG_N (n:Nat):∀(f k a b p:Nat),invG (n:Int) f k ((a:Int)-b) p=(((invN n f k a b p).1:Int)-(invN n f k a b p).2.1,(invN n f k a b p).2.2)
 | 0,k,a,b,p=>rfl
 | f+1,k,a,b,p=>by
  have e1:(SC/ ((p:Int)*(2*(k:Int)+1)))=((6277101735386680763835789423207666416102355444464034512896/ (p*(2*k+1)):Nat):Int):=div_cast 6277101735386680763835789423207666416102355444464034512896 p k
  have e2:(p:Int)*((n:Int)*n)=((p*(n*n):Nat):Int):=by push_cast;rfl
  unfold invG invN
  rw[e1,e2];generalize 6277101735386680763835789423207666416102355444464034512896/ (p*(2*k+1))=t
  by_cases h:t=0
  ·rw[if_pos h,if_pos (by omega)]
  ·rw[if_neg h,if_neg (by omega)]
   by_cases c:k%2=1
   ·rw[if_pos c,if_pos c,show (a:Int)-b+ -(t:Int)=(a:Int)-((b+t:Nat):Int) by push_cast;omega]
    exact invG_N n f _ _ _ _
   ·rw[if_neg c,if_neg c,show (a:Int)-b+(t:Int)=((a+t:Nat):Int)-(b:Int) by push_cast;omega]
    exact invG_N n f _ _ _ _
def invP (n:Int):Int × Int:=if n < 2\/1000 < n then (0,0)else ((invG n 200 0 0 n).1+(-((invG n 200 0 0 n).2:Int)-1),(invG n 200 0 0 n).1+(((invG n 200 0 0 n).2:Int)+1))
def invQ (n:Nat):Int × Int:=(((invN n 200 0 0 0 n).1:Int)-(invN n 200 0 0 0 n).2.1+(-((invN n 200 0 0 0 n).2.2:Int)-1),((invN n 200 0 0 0 n).1:Int)-(invN n 200 0 0 0 n).2.1+(((invN n 200 0 0 0 n).2.2:Int)+1))
theorem invP_Q{n:Nat}(h1:2<=n)(h2:n<=1000):invP (n:Int)=invQ n:=by
 have e:=invG_N n 200 0 0 0 n
 rw[show (((0:Nat):Int)-((0:Nat):Int))=0 from rfl]at e
 unfold invP invQ
 rw[if_neg (by omega),e]
theorem inv5:invQ 5=(1239072011291311913768300331356796477639936999957358576040,1239072011291311913768300331356796477639936999957358576122):=by kernel_rfl
theorem inv239:invQ 239=(26263870733613014474167984370118687693885283531911871163,26263870733613014474167984370118687693885283531911871189):=by kernel_rfl
abbrev PLo:Int:=19720096697726538562396133364228268891463450865190089731884
abbrev PHi:Int:=19720096697726538562396133364228268891463450865190089733300
theorem bounds_are:(invP 5).1*16-(invP 239).2*4=PLo/\(invP 5).2*16-(invP 239).1*4=PHi:=by
 have a:=invP_Q (n:=5) (by decide) (by decide);have b:=invP_Q (n:=239) (by decide) (by decide)
 rw[show (5:Int)=((5:Nat):Int)from rfl,show (239:Int)=((239:Nat):Int)from rfl,a,b,inv5,inv239]
 decide
abbrev PIL:Int:=14488038916154245684-9223372036854775808+1+(-62+1048576)*9223372036854775808
theorem pil_vr:vr PIL=14488038916154245684*2^(KK-62)/\vr (PIL+1)=14488038916154245685*2^(KK-62):=by
 have a:=vp_fin (M:=14488038916154245684) (E:= -62) (by decide) (by decide) (by decide);have b:=vp_fin (M:=14488038916154245685) (E:= -62) (by decide) (by decide) (by decide)
 rw[show (-62+(KK:Int)).toNat=KK-62 by rw[KK_eq];rfl]at a b
 constructor
 ·unfold vr
  rw[if_neg (by decide)];exact a
 ·unfold vr
  rw[if_neg (by decide),show PIL+1=14488038916154245685-9223372036854775808+1+(-62+1048576)*9223372036854775808 by decide]
  exact b
theorem kk_split:(2:Int)^KK=4611686018427387904*2^(KK-62):=by
 rw[show (2:Int)^KK=2^(62+(KK-62)) by rw[KK_eq],Int.pow_add]
 rfl
theorem pi_lo:Rq false PLo SC PIL:=by
 rw[rq_some (by decide),sid_f];obtain⟨a,b⟩:=pil_vr;have hp:=p2pos (KK-62)
 refine⟨by decide,by decide,fun _=>?_,fun _=>?_⟩
 ·rw[a,show sgi (decide (SC < 0)) SC=SC from rfl,show sgi (decide (SC < 0)) PLo=PLo from rfl,kk_split]
  generalize (2:Int)^(KK-62)=u at *
  unfold SC PLo
  omega
 ·rw[b,show sgi (decide (SC < 0)) SC=SC from rfl,show sgi (decide (SC < 0)) PLo=PLo from rfl,kk_split]
  generalize (2:Int)^(KK-62)=u at *
  unfold SC PLo
  omega
theorem pi_hi:Rq true PHi SC (PIL+1):=by
 rw[rq_some (by decide),sid_t];obtain⟨a,b⟩:=pil_vr;have hp:=p2pos (KK-62)
 refine⟨by decide,by decide,fun _=>?_,fun _=>?_⟩
 ·rw[vr_neg,b,show sgi (decide (SC < 0)) SC=SC from rfl,show sgi (decide (SC < 0)) PHi=PHi from rfl,kk_split]
  generalize (2:Int)^(KK-62)=u at *
  unfold SC PHi
  omega
 ·rw[show -(PIL+1)+1= -PIL by decide,vr_neg,a,show sgi (decide (SC < 0)) SC=SC from rfl,show sgi (decide (SC < 0)) PHi=PHi from rfl,kk_split]
  generalize (2:Int)^(KK-62)=u at *
  unfold SC PHi
  omega
end Go.Proofs.YtomikokonmikgaaGreatDoor
namespace Go.Proofs.YtomikokonmikgaaGreatDoor
open Go.RowKit
set_option linter.unusedVariables false
set_option linter.unusedSimpArgs false
set_option maxRecDepth 100000
def W2 (w:World)(K:Nat)(q r:Int)(e:Ending)(w':World):Prop:=∃s1 A1 n1 c1 s2 A2 n2 c2,e= .returned (.tuple #[.agg #[.bool s1,.slice A1 n1 c1],.agg #[.bool s2,.slice A2 n2 c2]])/\Wn w' s1 A1 n1 c1 q/\Wn w' s2 A2 n2 c2 r/\n1<=K/\n2<=K/\Below w.heap.size w w'
theorem Wn.fits{w:World}{A:Option Addr}{n c K:Nat}{s:Bool}{z:Int}(h:Wn w s A n c z)(hz:z.natAbs < 4294967296^K):n<=K:=by
 have h1:=h.1.len;have h2:=limbs_length_le hz
 omega
theorem meet_stuck:∀l:List Sp,l.foldl meetI none=none
 | []=>rfl
 | _::l=>meet_stuck l
theorem StN.trans{w w' w'':World}{g:Nat}{a b c:Array Value}{T:TypeId}(h:StN w w' g a b T)(k:StN w' w'' g b c T):StN w w'' g a c T:=
 ⟨h.1,k.2.1,fun j hj=>(k.2.2.1 j hj).trans (h.2.2.1 j hj),fun B x hB hb=>k.2.2.2 B x hB (h.2.2.2 B x hB hb)⟩
theorem StN.mk9{w:World}{g:Nat}{T:TypeId}{a0 a1 a2 a3 a4 a5 a6 a7 a8:Value}(X:Bo w g #[a0,a1,a2,a3,a4,a5,a6,a7,a8] T)(v0 v1 v2 v3 v4 v5 v6 v7 v8:Value):
  StN w (((((((((w.setCell ⟨g,0,none⟩ v0).setCell ⟨g,1,none⟩ v1).setCell ⟨g,2,none⟩ v2).setCell ⟨g,3,none⟩ v3).setCell ⟨g,4,none⟩ v4).setCell ⟨g,5,none⟩ v5).setCell ⟨g,6,none⟩ v6).setCell ⟨g,7,none⟩ v7).setCell ⟨g,8,none⟩ v8) g #[a0,a1,a2,a3,a4,a5,a6,a7,a8] #[v0,v1,v2,v3,v4,v5,v6,v7,v8] T:=by
 have t0:StN w (w.setCell ⟨g,0,none⟩ v0) g #[a0,a1,a2,a3,a4,a5,a6,a7,a8] #[v0,a1,a2,a3,a4,a5,a6,a7,a8] T:=StN.at4 X 0 v0
 have s0:=t0
 have t1:StN (w.setCell ⟨g,0,none⟩ v0) ((w.setCell ⟨g,0,none⟩ v0).setCell ⟨g,1,none⟩ v1) g #[v0,a1,a2,a3,a4,a5,a6,a7,a8] #[v0,v1,a2,a3,a4,a5,a6,a7,a8] T:=StN.at4 s0.box 1 v1
 have s1:=s0.trans t1
 have t2:StN ((w.setCell ⟨g,0,none⟩ v0).setCell ⟨g,1,none⟩ v1) (((w.setCell ⟨g,0,none⟩ v0).setCell ⟨g,1,none⟩ v1).setCell ⟨g,2,none⟩ v2) g #[v0,v1,a2,a3,a4,a5,a6,a7,a8] #[v0,v1,v2,a3,a4,a5,a6,a7,a8] T:=StN.at4 s1.box 2 v2
 have s2:=s1.trans t2
 have t3:StN (((w.setCell ⟨g,0,none⟩ v0).setCell ⟨g,1,none⟩ v1).setCell ⟨g,2,none⟩ v2) ((((w.setCell ⟨g,0,none⟩ v0).setCell ⟨g,1,none⟩ v1).setCell ⟨g,2,none⟩ v2).setCell ⟨g,3,none⟩ v3) g #[v0,v1,v2,a3,a4,a5,a6,a7,a8] #[v0,v1,v2,v3,a4,a5,a6,a7,a8] T:=StN.at4 s2.box 3 v3
 have s3:=s2.trans t3
 have t4:StN ((((w.setCell ⟨g,0,none⟩ v0).setCell ⟨g,1,none⟩ v1).setCell ⟨g,2,none⟩ v2).setCell ⟨g,3,none⟩ v3) (((((w.setCell ⟨g,0,none⟩ v0).setCell ⟨g,1,none⟩ v1).setCell ⟨g,2,none⟩ v2).setCell ⟨g,3,none⟩ v3).setCell ⟨g,4,none⟩ v4) g #[v0,v1,v2,v3,a4,a5,a6,a7,a8] #[v0,v1,v2,v3,v4,a5,a6,a7,a8] T:=StN.at4 s3.box 4 v4
 have s4:=s3.trans t4
 have t5:StN (((((w.setCell ⟨g,0,none⟩ v0).setCell ⟨g,1,none⟩ v1).setCell ⟨g,2,none⟩ v2).setCell ⟨g,3,none⟩ v3).setCell ⟨g,4,none⟩ v4) ((((((w.setCell ⟨g,0,none⟩ v0).setCell ⟨g,1,none⟩ v1).setCell ⟨g,2,none⟩ v2).setCell ⟨g,3,none⟩ v3).setCell ⟨g,4,none⟩ v4).setCell ⟨g,5,none⟩ v5) g #[v0,v1,v2,v3,v4,a5,a6,a7,a8] #[v0,v1,v2,v3,v4,v5,a6,a7,a8] T:=StN.at4 s4.box 5 v5
 have s5:=s4.trans t5
 have t6:StN ((((((w.setCell ⟨g,0,none⟩ v0).setCell ⟨g,1,none⟩ v1).setCell ⟨g,2,none⟩ v2).setCell ⟨g,3,none⟩ v3).setCell ⟨g,4,none⟩ v4).setCell ⟨g,5,none⟩ v5) (((((((w.setCell ⟨g,0,none⟩ v0).setCell ⟨g,1,none⟩ v1).setCell ⟨g,2,none⟩ v2).setCell ⟨g,3,none⟩ v3).setCell ⟨g,4,none⟩ v4).setCell ⟨g,5,none⟩ v5).setCell ⟨g,6,none⟩ v6) g #[v0,v1,v2,v3,v4,v5,a6,a7,a8] #[v0,v1,v2,v3,v4,v5,v6,a7,a8] T:=StN.at4 s5.box 6 v6
 have s6:=s5.trans t6
 have t7:StN (((((((w.setCell ⟨g,0,none⟩ v0).setCell ⟨g,1,none⟩ v1).setCell ⟨g,2,none⟩ v2).setCell ⟨g,3,none⟩ v3).setCell ⟨g,4,none⟩ v4).setCell ⟨g,5,none⟩ v5).setCell ⟨g,6,none⟩ v6) ((((((((w.setCell ⟨g,0,none⟩ v0).setCell ⟨g,1,none⟩ v1).setCell ⟨g,2,none⟩ v2).setCell ⟨g,3,none⟩ v3).setCell ⟨g,4,none⟩ v4).setCell ⟨g,5,none⟩ v5).setCell ⟨g,6,none⟩ v6).setCell ⟨g,7,none⟩ v7) g #[v0,v1,v2,v3,v4,v5,v6,a7,a8] #[v0,v1,v2,v3,v4,v5,v6,v7,a8] T:=StN.at4 s6.box 7 v7
 have s7:=s6.trans t7
 have t8:StN ((((((((w.setCell ⟨g,0,none⟩ v0).setCell ⟨g,1,none⟩ v1).setCell ⟨g,2,none⟩ v2).setCell ⟨g,3,none⟩ v3).setCell ⟨g,4,none⟩ v4).setCell ⟨g,5,none⟩ v5).setCell ⟨g,6,none⟩ v6).setCell ⟨g,7,none⟩ v7) (((((((((w.setCell ⟨g,0,none⟩ v0).setCell ⟨g,1,none⟩ v1).setCell ⟨g,2,none⟩ v2).setCell ⟨g,3,none⟩ v3).setCell ⟨g,4,none⟩ v4).setCell ⟨g,5,none⟩ v5).setCell ⟨g,6,none⟩ v6).setCell ⟨g,7,none⟩ v7).setCell ⟨g,8,none⟩ v8) g #[v0,v1,v2,v3,v4,v5,v6,v7,a8] #[v0,v1,v2,v3,v4,v5,v6,v7,v8] T:=StN.at4 s7.box 8 v8
 have s8:=s7.trans t8;exact s8
def Ci (e:Bool)(K:Int)(s:Bool)(M E K':Int)(s':Bool)(M' E':Int):Sp->Prop
 | none=>e=true/\Fq K s M E 0/\Fq K' s' M' E' 0
 | some (a,b)=>e=false/\Fq K s M E a/\Fq K' s' M' E' b/\a<=b/\a < 19342822337206103650074625/\ -19342822337206103650074625 < b
section
variable {e e2:Bool} {K M E K' M' E' K2 M2 E2 K2' M2' E2':Int} {s s' s2 s2':Bool} {x y:Sp}
theorem Ci.top (h:Ci e K s M E K' s' M' E' x):M < 18446744073709551616/\M' < 18446744073709551616:=by
 rcases x with _ | ⟨a,b⟩
 ·exact⟨h.2.1.top,h.2.2.top⟩
 ·exact⟨h.2.1.top,h.2.2.1.top⟩
theorem Ci.uniq (h:Ci e K s M E K' s' M' E' x)(k:Ci e2 K2 s2 M2 E2 K2' s2' M2' E2' x):e=e2/\K=K2/\s=s2/\M=M2/\E=E2/\K'=K2'/\s'=s2'/\M'=M2'/\E'=E2':=by
 rcases x with _ | ⟨a,b⟩
 ·obtain⟨h1,q1,q2⟩:=h;obtain⟨k1,p1,p2⟩:=k;obtain⟨c1,c2,c3,c4⟩:=q1.uniq p1;obtain⟨d1,d2,d3,d4⟩:=q2.uniq p2;exact⟨h1.trans k1.symm,c1,c2,c3,c4,d1,d2,d3,d4⟩
 ·obtain⟨h1,q1,q2,_⟩:=h;obtain⟨k1,p1,p2,_⟩:=k;obtain⟨c1,c2,c3,c4⟩:=q1.uniq p1;obtain⟨d1,d2,d3,d4⟩:=q2.uniq p2;exact⟨h1.trans k1.symm,c1,c2,c3,c4,d1,d2,d3,d4⟩
end
theorem Ci.none:Ci true 0 false 0 0 0 false 0 0 none:=⟨rfl,Fq.nought,Fq.nought⟩
def rkI (e:Bool)(K:Int)(s:Bool)(M E K':Int)(s':Bool)(M' E':Int):Sp:=if e=true then none else if MayQ K s M E/\MayQ K' s' M' E' then mkI (rk K s M E) (rk K' s' M' E')else none
def mayI (e:Bool)(K:Int)(s:Bool)(M E K':Int)(s':Bool)(M' E':Int):Bool:=if e=true then (decide (K=0/\s=false/\M=0/\E=0) && decide (K'=0/\s'=false/\M'=0/\E'=0))else decide (rkI e K s M E K' s' M' E'≠none)
section
variable {e:Bool} {K M E K' M' E':Int} {s s':Bool} {x:Sp}
theorem rkI_t:rkI true K s M E K' s' M' E'=none:=if_pos rfl
theorem rkI_f:rkI false K s M E K' s' M' E'=if MayQ K s M E/\MayQ K' s' M' E' then mkI (rk K s M E) (rk K' s' M' E')else none:=if_neg ff
theorem rkI_ok (hM:LQ M)(hM':LQ M'):SpOk (rkI e K s M E K' s' M' E'):=by
 cases e
 ·rw[rkI_f]
  by_cases h:MayQ K s M E/\MayQ K' s' M' E'
  ·rw[if_pos h];exact mkI_ok (rk_fq hM h.1).bd.1 (rk_fq hM' h.2).bd.2
  ·rw[if_neg h];exact trivial
 ·exact trivial
theorem mayI_ci (hM:LQ M)(hM':LQ M')(h:mayI e K s M E K' s' M' E'=true):Ci e K s M E K' s' M' E' (rkI e K s M E K' s' M' E'):=by
 unfold mayI at h
 cases e
 ·rw[if_neg ff,decide_eq_true_iff]at h;rw[rkI_f]at h|-
  by_cases hq:MayQ K s M E/\MayQ K' s' M' E'
  ·rw[if_pos hq]at h|-
   by_cases hc:rk K s M E<=rk K' s' M' E'/\rk K s M E < 19342822337206103650074625/\ -19342822337206103650074625 < rk K' s' M' E'
   ·rw[mkI_some hc.1 hc.2.1 hc.2.2];exact⟨rfl,rk_fq hM hq.1,rk_fq hM' hq.2,hc⟩
   ·exact absurd (mkI_none hc) h
  ·rw[if_neg hq]at h;exact absurd rfl h
 ·rw[if_pos rfl,Bool.and_eq_true,decide_eq_true_iff,decide_eq_true_iff]at h;obtain⟨⟨rfl,rfl,rfl,rfl⟩,rfl,rfl,rfl,rfl⟩:=h;exact Ci.none
theorem mayI_no (h:mayI e K s M E K' s' M' E'=false):rkI e K s M E K' s' M' E'=none:=by
 cases e
 ·unfold mayI at h
  rw[if_neg ff,decide_eq_false_iff_not]at h;exact Decidable.not_not.1 h
 ·exact rkI_t
theorem Ci.rk (h:Ci e K s M E K' s' M' E' x):rkI e K s M E K' s' M' E'=x:=by
 rcases x with _ | ⟨a,b⟩
 ·obtain⟨rfl,_⟩:=h;exact rkI_t
 ·obtain⟨rfl,q1,q2,h1,h2,h3⟩:=h;rw[rkI_f,if_pos ⟨q1.1,q2.1⟩,q1.rk,q2.rk,mkI_some h1 h2 h3]
theorem Ci.may (h:Ci e K s M E K' s' M' E' x):mayI e K s M E K' s' M' E'=true:=by
 have hr:=h.rk
 unfold mayI
 rcases x with _ | ⟨a,b⟩
 ·obtain⟨rfl,q1,q2⟩:=h;obtain⟨rfl,rfl,rfl,rfl⟩:=q1.uniq Fq.nought;obtain⟨rfl,rfl,rfl,rfl⟩:=q2.uniq Fq.nought
  rfl
 ·obtain⟨rfl,_⟩:=h;rw[if_neg ff,hr]
  rfl
end
def PV (w:World)(x:Sp)(e:Ending)(w':World):Prop:=∃e0 K s M E K' s' M' E',e= .returned (.agg #[.bool e0,.int .i64 K,.bool s,.int .u64 M,.int .i64 E,.int .i64 K',.bool s',.int .u64 M',.int .i64 E'])/\Ci e0 K s M E K' s' M' E' x/\Below w.heap.size w w'
def Jo.Fact.iv (x:Sp):Jo.Fact:=⟨fun v w=>∃e0 K s M E K' s' M' E',v= .agg #[.bool e0,.int .i64 K,.bool s,.int .u64 M,.int .i64 E,.int .i64 K',.bool s',.int .u64 M',.int .i64 E']/\Ci e0 K s M E K' s' M' E' x,fun v w w' h b=>h⟩
def Il8 (w:World)(A:Option Addr)(n c:Nat)(l:List Sp):Prop:=
 l.length=n/\n<=c/\n<=1099511627776/\(0 < n->∃b o,A=some ⟨b,o,none⟩/\∀k,k < n->∃e K s M E K' s' M' E',w.cell? ⟨b,o+k*9,none⟩=some (.bool e)/\w.cell? ⟨b,o+k*9+1,none⟩=some (.int .i64 K)/\w.cell? ⟨b,o+k*9+2,none⟩=some (.bool s)/\w.cell? ⟨b,o+k*9+3,none⟩=some (.int .u64 M)/\w.cell? ⟨b,o+k*9+4,none⟩=some (.int .i64 E)/\w.cell? ⟨b,o+k*9+5,none⟩=some (.int .i64 K')/\w.cell? ⟨b,o+k*9+6,none⟩=some (.bool s')/\w.cell? ⟨b,o+k*9+7,none⟩=some (.int .u64 M')/\w.cell? ⟨b,o+k*9+8,none⟩=some (.int .i64 E')/\M < 18446744073709551616/\M' < 18446744073709551616/\rkI e K s M E K' s' M' E'=l.getD k none)
theorem Il8.below{w w':World}{A:Option Addr}{n c:Nat}{l:List Sp}(h:Il8 w A n c l)(hb:Below w.heap.size w w'):Il8 w' A n c l:=by
 obtain⟨h1,h2,h3,h4⟩:=h
 refine⟨h1,h2,h3,fun hn=>?_⟩
 obtain⟨b,o,e,hc⟩:=h4 hn
 refine⟨b,o,e,fun k hk=>?_⟩
 obtain⟨e,K,s,M,E,K',s',M',E',c0,c1,c2,c3,c4,c5,c6,c7,c8,hM,hM',hr⟩:=hc k hk
 have t:∀{i:Nat} {v:Value},w.cell? ⟨b,i,none⟩=some v->w'.cell? ⟨b,i,none⟩=some v:=fun c=>(hb.cell (p:=⟨b,_,none⟩) (block_lt_of_cell c)).trans c
 exact⟨e,K,s,M,E,K',s',M',E',t c0,t c1,t c2,t c3,t c4,t c5,t c6,t c7,t c8,hM,hM',hr⟩
abbrev Il8.b:= @Il8.below
theorem Il8.ok{w:World}{A:Option Addr}{n c:Nat}{l:List Sp}(h:Il8 w A n c l):∀y ∈ l,SpOk y:=by
 intro y hy
 obtain⟨k,hk,e⟩:=List.getElem_of_mem hy;obtain⟨h1,h2,h3,h4⟩:=h;obtain⟨b,o,_,hc⟩:=h4 (by omega);obtain⟨e0,K,s,M,E,K',s',M',E',_,_,_,_,_,_,_,_,_,hM,hM',hr⟩:=hc k (by omega)
 have:l.getD k none=y:=by
  rw[List.getD_eq_getElem?_getD,List.getElem?_eq_getElem hk,e]
  rfl
 rw[<-this,<-hr];exact rkI_ok hM hM'
theorem StN.of9{w w1:World}{g:Nat}{T:TypeId}{a0 a1 a2 a3 a4 a5 a6 a7 a8 v0 v1 v2 v3 v4 v5 v6 v7 v8:Value}(X:Bo w g #[a0,a1,a2,a3,a4,a5,a6,a7,a8] T)(h:((((((((w.setCell ⟨g,0,none⟩ v0).setCell ⟨g,1,none⟩ v1).setCell ⟨g,2,none⟩ v2).setCell ⟨g,3,none⟩ v3).setCell ⟨g,4,none⟩ v4).setCell ⟨g,5,none⟩ v5).setCell ⟨g,6,none⟩ v6).setCell ⟨g,7,none⟩ v7).setCell ⟨g,8,none⟩ v8=w1):StN w w1 g #[a0,a1,a2,a3,a4,a5,a6,a7,a8] #[v0,v1,v2,v3,v4,v5,v6,v7,v8] T:=h▸StN.mk9 X v0 v1 v2 v3 v4 v5 v6 v7 v8
open Go in
theorem Jo.v1{P:Program}{f:FuncId}{a:Array Value}{w:World}{Q:Ending->World->Prop}{R:Value->World->Prop}{z:Sp}(h:Calls P f a w (PV w z))(hR:∀v w',(Jo.Fact.iv z).P v w'->Jo.Grow w w'->R v w')(hQ:∀v w',R v w'->Q (.returned v) w':=by exact fun _ _ h=>h):Calls P f a w Q:=by
 refine h.mono ?_
 rintro e w' ⟨e0,K,s,M,E,K',s',M',E',rfl,p,B⟩
 exact hQ _ _ (hR _ _ ⟨e0,K,s,M,E,K',s',M',E',rfl,p⟩ B)
theorem StN.t9{w:World}{g:Nat}{T:TypeId}{a0 a1 a2 a3 a4 a5 a6 a7 a8:Value}(X:Bo w g #[a0,a1,a2,a3,a4,a5,a6,a7,a8] T)(e:Bool)(K:Int)(s:Bool)(M E K':Int)(s':Bool)(M' E':Int):StN w (((((((((w.setCell ⟨g,0,none⟩ (.bool e)).setCell ⟨g,1,none⟩ (.int .i64 K)).setCell ⟨g,2,none⟩ (.bool s)).setCell ⟨g,3,none⟩ (.int .u64 M)).setCell ⟨g,4,none⟩ (.int .i64 E)).setCell ⟨g,5,none⟩ (.int .i64 K')).setCell ⟨g,6,none⟩ (.bool s')).setCell ⟨g,7,none⟩ (.int .u64 M')).setCell ⟨g,8,none⟩ (.int .i64 E')) g #[a0,a1,a2,a3,a4,a5,a6,a7,a8] #[.bool e,.int .i64 K,.bool s,.int .u64 M,.int .i64 E,.int .i64 K',.bool s',.int .u64 M',.int .i64 E'] T:=StN.mk9 X _ _ _ _ _ _ _ _ _
end Go.Proofs.YtomikokonmikgaaGreatDoor
namespace Go.Proofs.YtomikokonmikgaaGreatDoor
open Go.RowKit
set_option linter.unusedVariables false
set_option linter.unusedSimpArgs false
set_option maxRecDepth 100000
theorem fq_inf2 (s:Bool):Fq 2 s 0 0 (sgi s TP):=⟨.inr (.inr ⟨rfl,rfl,rfl⟩),by decide,by
 cases s <;> rfl⟩
end Go.Proofs.YtomikokonmikgaaGreatDoor
namespace Go.Proofs.YtomikokonmikgaaGreatDoor
open Go Go.RowKit
set_option linter.unusedVariables false
def pev:List Int->Rat->Rat
 | [],_=>0
 | a::p,x=>(a:Rat)+x*pev p x
def padd:List Int->List Int->List Int
 | [],q=>q
 | a::p,[]=>a::p
 | a::p,b::q=>(a+b)::padd p q
def psc (c:Int):List Int->List Int
 | []=>[]
 | a::p=>(c*a)::psc c p
def pmul:List Int->List Int->List Int
 | [],_=>[]
 | a::p,q=>padd (psc a q) (0::pmul p q)
theorem pev_add:∀(p q:List Int) (x:Rat),pev (padd p q) x=pev p x+pev q x
 | [],q,x=>by simp only[padd,pev];grind
 | a::p,[],x=>by simp only[padd,pev];grind
 | a::p,b::q,x=>by
  simp only[padd,pev];rw[pev_add p q x,Rat.intCast_add]
  grind
theorem pev_sc (c:Int):∀(p:List Int) (x:Rat),pev (psc c p) x=(c:Rat)*pev p x
 | [],x=>by simp only[psc,pev];grind
 | a::p,x=>by
  simp only[psc,pev];rw[pev_sc c p x,Rat.intCast_mul]
  grind
theorem pev_mul:∀(p q:List Int) (x:Rat),pev (pmul p q) x=pev p x*pev q x
 | [],q,x=>by simp only[pmul,pev];grind
 | a::p,q,x=>by
  simp only[pmul,pev];rw[pev_add,pev_sc];simp only[pev];rw[pev_mul p q x]
  grind
def ptr (H K:Int):List Int->List Int
 | []=>[]
 | a::p=>padd [a*K^(p.length+1)] (padd (0::psc K (ptr H K p)) (psc H (ptr H K p)))
theorem pev_tr (H K:Int)(hK:(K:Rat)≠0):∀(p:List Int) (x:Rat),pev (ptr H K p) x=pev p (x+(H:Rat) /K)*(K:Rat)^p.length
 | [],x=>by simp only[ptr,pev];grind
 | a::p,x=>by
  simp only[ptr];rw[pev_add,pev_add,pev_sc];simp only[pev];rw[pev_sc,pev_tr H K hK p x,List.length_cons,Rat.pow_succ,Rat.intCast_mul,Rat.intCast_pow,Rat.pow_succ]
  have e:(H:Rat) /K*K=H:=Rat.div_mul_cancel hK
  generalize (H:Rat) /K=h at *;rw[<-e]
  grind
def pabs (B:Nat):List Int->Nat
 | []=>0
 | a::p=>a.natAbs+B*pabs B p
theorem mul_bd{b a x e:Rat}(h1: -b<=x)(h2:x<=b)(h3: -a<=e)(h4:e<=a): -(b*a)<=x*e/\x*e<=b*a:=by
 have k1:=Rat.mul_nonneg (a:=b-x) (b:=a+e) (by grind) (by grind);have k2:=Rat.mul_nonneg (a:=b+x) (b:=a-e) (by grind) (by grind);have k3:=Rat.mul_nonneg (a:=b-x) (b:=a-e) (by grind) (by grind);have k4:=Rat.mul_nonneg (a:=b+x) (b:=a+e) (by grind) (by grind)
 constructor <;> grind
theorem int_bd (a:Int): -((a.natAbs:Nat):Rat)<=(a:Rat)/\(a:Rat)<=((a.natAbs:Nat):Rat):=by
 have h1: -(a.natAbs:Int)<=a:=by omega
 have h2:a<=(a.natAbs:Int):=by omega
 have k1:=Rat.intCast_le_intCast.2 h1;have k2:=Rat.intCast_le_intCast.2 h2;rw[Rat.intCast_neg]at k1;exact⟨k1,k2⟩
theorem pev_bd{B:Nat}{x:Rat}(h1: -(B:Rat)<=x)(h2:x<=(B:Rat)):∀p:List Int,-((pabs B p:Nat):Rat)<=pev p x/\pev p x<=((pabs B p:Nat):Rat)
 | []=>by simp only[pabs,pev];constructor <;> grind
 | a::p=>by
  obtain⟨i1,i2⟩:=pev_bd h1 h2 p;obtain⟨m1,m2⟩:=mul_bd h1 h2 i1 i2;obtain⟨a1,a2⟩:=int_bd a;simp only[pabs,pev];rw[Rat.natCast_add,Rat.natCast_mul]
  constructor <;> grind
def sl:Nat->Int->List Int->List Int
 | 0,c,l=>0::c::l
 | k+1,c,l=>sl k (-c*((2*(k:Int)+3)*(2*k+2))) (0::c::l)
def TL:List Int:=sl 40 1 []
abbrev QH:Int:=181885788445883162140117471388864931326696688664196214979386075558969447233092
abbrev QK:Int:=2^256
def pdil (c:Int):List Int->List Int
 | []=>[]
 | a::p=>a::psc c (pdil c p)
def pder:List Int->List Int
 | []=>[]
 | _::p=>padd p (0::pder p)
def pab2 (B:Nat):List Int->Nat
 | []=>0
 | _::p=>B*pab2 B p+pabs B (pder p)
def prem (p:List Int)(x d:Rat):Rat:=pev p (x+d)-pev p x-d*pev (pder p) x
theorem prem_cons (a:Int)(p:List Int)(x d:Rat):prem (a::p) x d=(x+d)*prem p x d+d*d*pev (pder p) x:=by
 unfold prem
 simp only[pder,pev];rw[pev_add];simp only[pev];rw[Rat.intCast_zero]
 grind
theorem sq_nn (d:Rat):0<=d*d:=by
 rcases (Rat.le_total:(0:Rat)<=d\/d<=0)with h | h
 ·exact Rat.mul_nonneg h h
 ·have:=Rat.mul_nonneg (a:= -d) (b:= -d) (by grind) (by grind)
  grind
theorem prem_bd{B:Nat}{x d:Rat}(h1: -(B:Rat)<=x)(h2:x<=(B:Rat))(h3: -(B:Rat)<=x+d)(h4:x+d<=(B:Rat)):∀p:List Int,-(d*d*((pab2 B p:Nat):Rat))<=prem p x d/\prem p x d<=d*d*((pab2 B p:Nat):Rat)
 | []=>by
  unfold prem
  simp only[pab2,pev,pder]
  have e:((0:Nat):Rat)=0:=rfl
  rw[e]
  constructor <;> grind
 | a::p=>by
  obtain⟨i1,i2⟩:=prem_bd h1 h2 h3 h4 p;obtain⟨m1,m2⟩:=mul_bd h3 h4 i1 i2;obtain⟨b1,b2⟩:=pev_bd h1 h2 (pder p);have s:=sq_nn d;have k1:=Rat.mul_nonneg s (b:=((pabs B (pder p):Nat):Rat)-pev (pder p) x) (by grind);have k2:=Rat.mul_nonneg s (b:=((pabs B (pder p):Nat):Rat)+pev (pder p) x) (by grind);rw[prem_cons];simp only[pab2];rw[Rat.natCast_add,Rat.natCast_mul]
  generalize ((pabs B (pder p):Nat):Rat)=u at *;generalize pev (pder p) x=v at *;generalize prem p x d=r at *;generalize ((pab2 B p:Nat):Rat)=t at *;generalize (B:Rat)=b at *
  constructor <;> grind
abbrev DD:Int:=5797126020747367985879734231578109105412357244731625958745865049716390179693892056256184534249745940480000000000000000000
def TH:List Int:=ptr QH QK TL
def E3:List Int:=padd (padd (psc (QK^164) (pmul TL TL)) (pmul TH TH)) [-(DD*DD*QK^164)]
def E4:List Int:=padd (psc (DD*QK^82) (pdil 2 TL)) (psc (-2) (pmul TL TH))
def E5:List Int:=padd (padd (pmul TL TL) (pmul (pder TL) (pder TL))) [-(DD*DD)]
theorem tl_len:TL.length=82:=by decide +kernel
theorem e3_small:pabs 2 E3*2^240<=(DD*DD*QK^164).natAbs:=Nat.le_of_ble_eq_true (by decide +kernel)
theorem e5_small:pabs 2 E5*2^200<=(DD*DD).natAbs:=Nat.le_of_ble_eq_true (by decide +kernel)
def sinT (x:Rat):Rat:=pev TL x/ (DD:Int)
def cosT (x:Rat):Rat:=pev (pder TL) x/ (DD:Int)
def qt:Rat:=(QH:Rat) / (QK:Int)
theorem dd_pos:(0:Rat) < ((DD:Int):Rat):=by
 have h:(0:Int) < DD:=by decide
 exact Rat.intCast_lt_intCast.2 h
theorem qk_pos:(0:Rat) < ((QK:Int):Rat):=by
 have h:(0:Int) < QK:=by decide
 exact Rat.intCast_lt_intCast.2 h
theorem small_of{u v:Rat}{n:Nat}{m:Int}{k:Nat}(hm:0 < m)(h:n*2^k<=m.natAbs)(h1: -((n:Nat):Rat)<=u)(h2:u<=((n:Nat):Rat))(e:v*(m:Rat)=u): -1<=v*2^k/\v*2^k<=1:=by
 have hm':(0:Rat) < (m:Rat):=Rat.intCast_lt_intCast.2 hm
 have e2:((m.natAbs:Int))=m:=by omega
 have c:((n:Nat):Rat)*2^k<=(m:Rat):=by
  have h3:=Rat.natCast_le_natCast.2 h;rw[Rat.natCast_mul,Rat.natCast_pow]at h3
  have e3:((m.natAbs:Nat):Rat)=(m:Rat):=by
   rw[<-e2]
   rfl
  rw[e3]at h3;exact h3
 have p2:(0:Rat) < 2^k:=Rat.pow_pos (by decide)
 have k1:=Rat.mul_nonneg (a:=(n:Rat)-u) (b:=2^k) (by grind) (Rat.le_of_lt p2);have k2:=Rat.mul_nonneg (a:=(n:Rat)+u) (b:=2^k) (by grind) (Rat.le_of_lt p2)
 have g1:v*2^k*(m:Rat)<=1*(m:Rat):=by grind
 have g2: -1*(m:Rat)<=v*2^k*(m:Rat):=by grind
 exact⟨Rat.le_of_mul_le_mul_right g2 hm',Rat.le_of_mul_le_mul_right g1 hm'⟩
theorem rpow_add (k:Rat)(n:Nat):∀m:Nat,k^(n+m)=k^n*k^m
 | 0=>by rw[Nat.add_zero,Rat.pow_zero];grind
 | m+1=>by
  rw[show n+(m+1)=(n+m)+1 from rfl,Rat.pow_succ,Rat.pow_succ,rpow_add k n m]
  grind
theorem sin_dd (x:Rat):sinT x*((DD:Int):Rat)=pev TL x:=Rat.div_mul_cancel (Rat.ne_of_gt dd_pos)
theorem cos_dd (x:Rat):cosT x*((DD:Int):Rat)=pev (pder TL) x:=Rat.div_mul_cancel (Rat.ne_of_gt dd_pos)
theorem th_at (x:Rat):pev TH x=sinT (x+qt)*((DD:Int):Rat)*((QK:Int):Rat)^82:=by
 unfold TH
 rw[pev_tr QH QK (Rat.ne_of_gt qk_pos),tl_len,sin_dd]
 rfl
theorem circle{x:Rat}(h1: -2<=x)(h2:x<=2): -1<=(sinT x*sinT x+sinT (x+qt)*sinT (x+qt)-1)*2^240/\(sinT x*sinT x+sinT (x+qt)*sinT (x+qt)-1)*2^240<=1:=by
 obtain⟨b1,b2⟩:=pev_bd (B:=2) (x:=x) h1 h2 E3;refine small_of (m:=DD*DD*QK^164) (by decide +kernel) e3_small b1 b2 ?_
 have e:pev E3 x=((QK^164:Int):Rat)*(pev TL x*pev TL x)+pev TH x*pev TH x+((-(DD*DD*QK^164):Int):Rat):=by
  unfold E3
  rw[pev_add,pev_add,pev_sc,pev_mul,pev_mul];simp only[pev]
  grind
 rw[e,th_at,<-sin_dd,Rat.intCast_neg,Rat.intCast_mul,Rat.intCast_mul,Rat.intCast_pow,show (164:Nat)=82+82 from rfl,rpow_add]
 generalize ((QK:Int):Rat)^82=k;generalize ((DD:Int):Rat)=d;generalize sinT x=s;generalize sinT (x+qt)=c
 grind
theorem circleD{x:Rat}(h1: -2<=x)(h2:x<=2): -1<=(sinT x*sinT x+cosT x*cosT x-1)*2^200/\(sinT x*sinT x+cosT x*cosT x-1)*2^200<=1:=by
 obtain⟨b1,b2⟩:=pev_bd (B:=2) (x:=x) h1 h2 E5;refine small_of (m:=DD*DD) (by decide +kernel) e5_small b1 b2 ?_
 have e:pev E5 x=pev TL x*pev TL x+pev (pder TL) x*pev (pder TL) x+((-(DD*DD):Int):Rat):=by
  unfold E5
  rw[pev_add,pev_add,pev_mul,pev_mul];simp only[pev]
  grind
 rw[e,<-sin_dd,<-cos_dd,Rat.intCast_neg,Rat.intCast_mul];generalize ((DD:Int):Rat)=d;generalize sinT x=s;generalize cosT x=c
 grind
theorem sl_odd (x:Rat):∀(k:Nat) (c:Int) (l:List Int),pev l (-x)= -pev l x->pev (sl k c l) (-x)= -pev (sl k c l) x
 | 0,c,l,h=>by
  simp only[sl,pev];rw[h,Rat.intCast_zero]
  grind
 | k+1,c,l,h=>by
  simp only[sl];refine sl_odd x k _ _ ?_;simp only[pev];rw[h,Rat.intCast_zero]
  grind
theorem sin_neg (x:Rat):sinT (-x)= -sinT x:=by
 have h:=sl_odd x 40 1 [] (by simp only[pev];grind);have a:=sin_dd x;have b:=sin_dd (-x)
 have c:pev TL (-x)= -pev TL x:=h
 have d:=dd_pos
 unfold sinT
 rw[c,Rat.div_def,Rat.div_def]
 grind
def tt (c y:Rat):Nat->Rat
 | 0=>c*y
 | k+1=> -(tt c y k*(y*y)) / (((2*((k:Int)+1))*(2*((k:Int)+1)+1):Int):Rat)
def ss (c y:Rat):Nat->Rat
 | 0=>c*y
 | k+1=>ss c y k+tt c y (k+1)
def low:Nat->Int->Int
 | 0,c=>c
 | k+1,c=>low k (-c*((2*(k:Int)+3)*(2*k+2)))
theorem nk_pos (k:Nat):(0:Int) < (2*((k:Int)+1))*(2*((k:Int)+1)+1):=Int.mul_pos (by omega) (by omega)
theorem sl_ss (y:Rat):∀(k:Nat) (c:Int) (l:List Int),tt (low k c) y k=(c:Rat)*(y*(y*y)^k)/\pev (sl k c l) y=ss (low k c) y k+(y*y)^(k+1)*pev l y
 | 0,c,l=>by
  simp only[tt,ss,low,sl,pev];rw[Rat.intCast_zero,Rat.pow_succ,Rat.pow_zero]
  constructor <;> grind
 | k+1,c,l=>by
  obtain⟨a,b⟩:=sl_ss y k (-c*((2*(k:Int)+3)*(2*k+2))) (0::c::l)
  have hn:((((2*((k:Int)+1))*(2*((k:Int)+1)+1):Int)):Rat)≠0:=Rat.ne_of_gt (Rat.intCast_lt_intCast.2 (nk_pos k))
  have hi:(-c*((2*(k:Int)+3)*(2*k+2)))= -c*((2*((k:Int)+1))*(2*((k:Int)+1)+1)):=by
   rw[show 2*((k:Int)+1)+1=2*(k:Int)+3 by omega,show 2*((k:Int)+1)=2*(k:Int)+2 by omega,Int.mul_comm (2*(k:Int)+2)]
  have t1:tt (low (k+1) c) y (k+1)=(c:Rat)*(y*(y*y)^(k+1)):=by
   simp only[tt,low];rw[a,hi,Rat.intCast_mul,Rat.intCast_neg,Rat.pow_succ,Rat.div_def];generalize ((((2*((k:Int)+1))*(2*((k:Int)+1)+1):Int)):Rat)=n at *;have e:=Rat.mul_inv_cancel n hn;generalize n⁻¹=i at *;generalize (y*y)^k=p
   have: -(-(c:Rat)*n*(y*p)*(y*y))*i=(c:Rat)*(y*(p*(y*y)))*(n*i):=by grind
   rw[this,e]
   grind
  refine⟨t1,?_⟩
  have t2:ss (low (k+1) c) y (k+1)=ss (low (k+1) c) y k+tt (low (k+1) c) y (k+1):=rfl
  rw[t2,t1]
  show pev (sl k (-c*((2*(k:Int)+3)*(2*k+2))) (0::c::l)) y=ss (low k (-c*((2*(k:Int)+3)*(2*k+2)))) y k+_+_
  rw[b];simp only[pev]
  rw[Rat.intCast_zero,show k+1+1=(k+1)+1 from rfl,Rat.pow_succ (y*y) (k+1)]
  generalize (y*y)^(k+1)=p
  grind
theorem tt_lin (c y:Rat):∀k,tt c y k=c*tt 1 y k
 | 0=>by simp only[tt];grind
 | k+1=>by
  simp only[tt];rw[tt_lin c y k,Rat.div_def,Rat.div_def]
  grind
theorem ss_lin (c y:Rat):∀k,ss c y k=c*ss 1 y k
 | 0=>by simp only[ss];grind
 | k+1=>by
  simp only[ss];rw[ss_lin c y k,tt_lin c y (k+1)]
  grind
theorem low_dd:low 40 1=DD:=by decide +kernel
theorem sin_ss (y:Rat):sinT y=ss 1 y 40:=by
 have h:=(sl_ss y 40 1 []).2
 have e:pev TL y=ss ((DD:Int):Rat) y 40:=by
  show pev (sl 40 1 []) y=_
  rw[h,low_dd];simp only[pev]
  grind
 unfold sinT
 rw[e,ss_lin,Rat.mul_comm];exact Rat.mul_div_cancel (Rat.ne_of_gt dd_pos)
def ti (m:Int):Nat->Int
 | 0=>m
 | k+1=> -((ti m k*m/SC*m/SC) / ((2*((k:Int)+1))*(2*((k:Int)+1)+1)))
def si (m:Int):Nat->Int
 | 0=>m
 | k+1=>si m k+ti m (k+1)
abbrev SR:Rat:=((SC:Int):Rat)
theorem sr_pos:(0:Rat) < SR:=by
 have h:(0:Int) < SC:=by decide
 exact Rat.intCast_lt_intCast.2 h
theorem fl_bd (a b:Int)(hb:0 < b):(((a/b:Int)):Rat)*(b:Rat)<=(a:Rat)/\(a:Rat) < (((a/b:Int)):Rat)*(b:Rat)+(b:Rat):=by
 have h1:=Rat.intCast_le_intCast.2 (Int.ediv_mul_le a (Int.ne_of_gt hb));have h2:=Rat.intCast_lt_intCast.2 (Int.lt_ediv_add_one_mul_self a hb);rw[Rat.intCast_mul]at h1 h2;rw[Rat.intCast_add]at h2
 have e:((1:Int):Rat)=1:=rfl
 rw[e]at h2
 constructor <;> grind
theorem fl_div (a b:Int)(hb:0 < b){z:Rat}(hz:z*(b:Rat)=(a:Rat)):(((a/b:Int)):Rat)<=z/\z < (((a/b:Int)):Rat)+1:=by
 have hb':(0:Rat) < (b:Rat):=Rat.intCast_lt_intCast.2 hb
 obtain⟨h1,h2⟩:=fl_bd a b hb
 constructor
 ·exact Rat.le_of_mul_le_mul_right (by rw[hz];exact h1) hb'
 ·have c:¬(((a/b:Int)):Rat)+1<=z:=fun c=>by
   have:=Rat.mul_le_mul_of_nonneg_right c (Rat.le_of_lt hb')
   rw[hz]at this
   grind
  exact Rat.not_le.1 c
theorem abs_of_sq{c e:Rat}(he:0<=e)(h:c*c<=1+e): -(1+e)<=c/\c<=1+e:=by
 have s:=sq_nn e
 constructor
 ·by_cases k: -(1+e)<=c
  ·exact k
  ·have k':=Rat.not_le.1 k
   have this:=Rat.mul_nonneg (a:= -(1+e)-c) (b:= -(1+e)-c) (by grind) (by grind);have g:=Rat.mul_pos (a:= -(1+e)-c) (b:=1+e) (by grind) (by grind)
   grind
 ·by_cases k:c<=1+e
  ·exact k
  ·have k':=Rat.not_le.1 k
   have this:=Rat.mul_nonneg (a:=c-(1+e)) (b:=c-(1+e)) (by grind) (by grind);have g:=Rat.mul_pos (a:=c-(1+e)) (b:=1+e) (by grind) (by grind)
   grind
end Go.Proofs.YtomikokonmikgaaGreatDoor
namespace Go.Proofs.YtomikokonmikgaaGreatDoor
open Go.RowKit
set_option linter.unusedVariables false
set_option linter.unusedSimpArgs false
set_option maxRecDepth 100000
theorem cmp_lt12{x y c:Int}(h:cmpI x y=c):decide (c < 0)=decide (x < y)/\decide (0 < c)=decide (y < x):=by
 rw[<-h]
 rcases cmpI_tri x y with⟨a,b⟩ | ⟨a,b⟩ | ⟨a,b⟩ <;> rw[b]
 ·exact⟨by rw[dt a];rfl,by rw[df (show ¬y < x by omega)];rfl⟩
 ·exact⟨by rw[df (show ¬x < y by omega)];rfl,by rw[df (show ¬y < x by omega)];rfl⟩
 ·exact⟨by rw[df (show ¬x < y by omega)];rfl,by rw[dt (show y < x by omega)];rfl⟩
end Go.Proofs.YtomikokonmikgaaGreatDoor
namespace Go.Proofs.YtomikokonmikgaaGreatDoor
open Go Go.RowKit
set_option linter.unusedVariables false
structure Duo (g h:Nat) (w w':World):Prop where
 os:w'.os=w.os
 tape:w'.tape=w.tape
 output:w'.output=w.output
 size:w.heap.size<=w'.heap.size
 block:∀k,k < w.heap.size->k≠g->k≠h->w'.heap[k]?=w.heap[k]?
section
variable {g h:Nat} {w w' w'':World}
theorem Duo.of (H:Below w.heap.size w w'):Duo g h w w':=⟨H.os,H.tape,H.output,H.size,fun k hk _ _=>H.block k hk⟩
theorem Duo.trans (H:Duo g h w w')(K:Duo g h w' w''):Duo g h w w'':=
 ⟨K.os.trans H.os,K.tape.trans H.tape,K.output.trans H.output,Nat.le_trans H.size K.size,fun i hi a b=>(K.block i (Nat.lt_of_lt_of_le hi H.size) a b).trans (H.block i hi a b)⟩
theorem Duo.mv (H:Duo g h w w')(K:Below w'.heap.size w' w''):Duo g h w w'':=H.trans (.of K)
theorem Duo.stn{k:Nat}{old new:Array Value}{R:TypeId}(H:Duo g h w w')(S:StN w' w'' k old new R)(hk:k=g\/k=h\/w.heap.size<=k):Duo g h w w'':=by
 have hb:=S.2.2.2 0 w' (Nat.zero_le _) (Below.refl 0 w')
 exact⟨hb.os.trans H.os,hb.tape.trans H.tape,hb.output.trans H.output,Nat.le_trans H.size hb.size,fun i hi a b=>(S.2.2.1 i (by omega)).trans (H.block i hi a b)⟩
theorem Duo.below{B:Nat}{a:World}(O:Duo g h w w')(H:Below B a w)(h1:B<=g)(h2:B<=h)(h3:B<=w.heap.size):Below B a w':=
 ⟨O.os.trans H.os,O.tape.trans H.tape,O.output.trans H.output,Nat.le_trans H.size O.size,fun k hk=>(O.block k (by omega) (by omega) (by omega)).trans (H.block k hk)⟩
abbrev Duo.b:= @Duo.below
theorem Bo.duo{k:Nat}{cs:Array Value}{T:TypeId}(X:Bo w k cs T)(O:Duo g h w w')(a:k≠g)(b:k≠h):Bo w' k cs T:=X.keep (O.block k X.lt a b)
theorem Wn.duo{old old2:Array Value}{R R2:TypeId}{s:Bool}{B:Option Addr}{m d:Nat}{z:Int}(p:Wn w s B m d z)(X:Bo w g old R)(Y:Bo w h old2 R2)(hn:old.all no32=true)(hn2:old2.all no32=true)(O:Duo g h w w'):Wn w' s B m d z:=by
 obtain⟨⟨b,q⟩,e⟩:=p
 refine⟨⟨b,q.keep fun hm=>O.block b (q.lt hm) (fun e=>?_) (fun e=>?_)⟩,e⟩
 ·obtain⟨o,_,hc⟩:=q.at hm
  have:=hc 0 hm
  rw[e]at this;exact X.no hn this
 ·obtain⟨o,_,hc⟩:=q.at hm
  have:=hc 0 hm
  rw[e]at this;exact Y.no hn2 this
end
theorem term_le{p:Int}{k:Nat}{T:Int}(hp:0 < p)(hT:SC.fdiv (p*(2*(k:Int)+1))=T)(hn:T≠0):p<=SC:=by
 have hd:0 < p*(2*(k:Int)+1):=Int.mul_pos hp (by omega)
 rw[Int.fdiv_eq_ediv_of_nonneg _ (by omega)]at hT
 have le:p*(2*(k:Int)+1)<=SC:=by
  rcases Int.lt_or_le SC (p*(2*(k:Int)+1))with c | c
  ·exact absurd ((Int.ediv_eq_zero_of_lt (by decide) c).symm.trans hT).symm hn
  ·exact c
 exact Int.le_trans (by
  have:p*1<=p*(2*(k:Int)+1):=Int.mul_le_mul_of_nonneg_left (by omega) (by omega)
  omega) le
theorem term_bd{p T:Int}{k:Nat}(hp:0 < p)(hT:SC.fdiv (p*(2*(k:Int)+1))=T):0<=T/\T<=SC:=by
 have hd:0 < p*(2*(k:Int)+1):=Int.mul_pos hp (by omega)
 rw[Int.fdiv_eq_ediv_of_nonneg _ (by omega)]at hT;rw[<-hT];exact⟨Int.ediv_nonneg (by decide) (by omega),Int.ediv_le_self _ (by decide)⟩
theorem power_bd{p n:Int}(hp:0 < p)(h:p<=SC*1000000)(h1:2<=n)(h2:n<=1000):0 < p*(n*n)/\p*(n*n)<=SC*1000000*1000000:=by
 have a:0 < n*n:=Int.mul_pos (by omega) (by omega)
 have b:n*n<=1000*1000:=Int.mul_le_mul h2 h2 (by omega) (by decide)
 exact⟨Int.mul_pos hp a,Int.mul_le_mul h (by omega) (by omega) (by decide)⟩
theorem small8{T:Int}(h:0<=T/\T<=SC):T.natAbs < 4294967296^8:=by
 have a:T<=6277101735386680763835789423207666416102355444464034512896:=h.2
 have b:=h.1
 omega
theorem small10{p:Int}(h:0 < p/\p<=SC*1000000*1000000):p.natAbs < 4294967296^10:=by
 have a:p<=6277101735386680763835789423207666416102355444464034512896*1000000*1000000:=h.2
 have b:=h.1
 omega
end Go.Proofs.YtomikokonmikgaaGreatDoor
namespace Go.Proofs.YtomikokonmikgaaGreatDoor
set_option maxHeartbeats 8000000
open Go.RowKit
set_option linter.unusedVariables false
set_option linter.unusedSimpArgs false
set_option maxRecDepth 100000
theorem cScale{w:World}:Calls Tryz.prog 53 #[] w (W1 w 8 SC):=by
 go_enter Tryz.func53,Tryz.ntmps53
 go_upto_region 1 with (fail)
 generalize hW1:w.alloc _=w1 at *;obtain⟨XR,HB⟩:=Bo.en1 hW1;clear hW1
 go_wp2_with fail
 refine(vShl (a:=1) 192 ⟨_,[1],one_limb w1,rfl⟩ (by decide) (by decide)).mono ?_;rintro ee w2 ⟨A2,n2,c2,rfl,p2,k2,B⟩;replace B:=bt (bel1 _ (.cells #[.int .u32 1] 92)) B;replace XR:=XR.b B;replace HB:=Hqb HB B;clear B
 go_wp2_with fail
 refine(wMake false p2.rd).mono ?_;rintro ee w3 ⟨s3,A3,n3,c3,rfl,p3,k3,B⟩;replace XR:=XR.b B;replace HB:=Hqb HB B;clear B;clear p2
 replace p3:Wn w3 s3 A3 n3 c3 SC:=by rw[show SC=sg false (1*2^192) by decide];exact p3
 have xXR:=XR.cell;have zXR0:=XR.frozen;go_wp2;clear xXR zXR0;have SX:=StN.t2 XR s3 A3 n3 c3;replace p3:=p3.s SX;exact bq (v:= .agg #[.bool s3,.slice A3 n3 c3]) (by simp[results,Tryz.results53,go_sem,SX.box.cell]) rfl ⟨s3,A3,n3,c3,rfl,p3,by omega,(SX.below HB.out (by omega))⟩
theorem cPiece{w:World}{A:Option Addr}{n c K:Nat}{zs:List Int}{y q:Int}(h:Wl w A n c K zs)(hK:1+n*K<=1000)(hy:prd zs=y)(h0:y≠0)(hq:SC.fdiv y=q):Calls Tryz.prog 253 #[.slice A n c] w (W1 w 2000 q):=by
 go_enter Tryz.func253,Tryz.ntmps253
 go_upto_region 1 with (fail)
 generalize hW1:w.alloc _=w1 at *;obtain⟨XR,HB⟩:=Bo.en1 hW1;replace h:=h.below HB.out;clear hW1
 go_wp2_with fail
 refine(cScale).mono ?_;rintro ee w2 ⟨s2,A2,n2,c2,rfl,p2,k2,B⟩;replace XR:=XR.b B;replace h:=h.b B;replace HB:=Hqb HB B;clear B
 go_wp2_with fail
 refine(wMul h (by omega) hy).mono ?_;rintro ee w3 ⟨s3,A3,n3,c3,rfl,p3,k3,B⟩;replace XR:=XR.b B;replace p2:=p2.b B;replace HB:=Hqb HB B;clear B;clear h
 go_wp2_with fail
 refine(wDiv p2.wr p3.wr (by omega) (by omega) h0 hq rfl).mono ?_;rintro ee w4 ⟨s8,A8,n8,c8,s9,A9,n9,c9,rfl,p8,p9,k8,k9,B⟩;replace XR:=XR.b B;replace HB:=Hqb HB B;clear B;clear p2 p3
 go_upto_region 2 with (fail)
 have e4X6:(World.alloc w4 (.cells #[.bool s8,.slice A8 n8 c8] 27)).heap.size=w4.heap.size+1:=by simp
 have nX5XR:=XR.lt;have BX:=bel1 w4 (.cells #[.bool s8,.slice A8 n8 c8] 27);replace XR:=XR.b BX;replace p8:=p8.b BX;replace HB:=ie (bt HB.out BX);have X5:=Bo.new w4 #[.bool s8,.slice A8 n8 c8] 27;generalize hWn:World.alloc w4 (.cells #[.bool s8,.slice A8 n8 c8] 27)=w5 at *;clear hWn
 have nX6XR:=XR.lt;have nX6X5:=X5.lt;generalize hWn:w5.alloc _=w6 at *;obtain⟨X6,BW⟩:=Bo.nw hWn;clear hWn;replace XR:=XR.b BW;replace X5:=X5.b BW;replace p8:=p8.b BW;replace HB:=Hqb HB BW;clear BW;rw[e4X6]at X6;clear e4X6;clear p9;have xXR:=XR.cell;have zXR0:=XR.frozen;have xX5:=X5.cell;go_wp2;clear xXR zXR0 xX5
 have SX:=StN.t2 XR s8 A8 n8 c8;replace p8:=p8.s SX;exact bq (v:= .agg #[.bool s8,.slice A8 n8 c8]) (by simp[results,Tryz.results253,go_sem,SX.box.cell]) rfl ⟨s8,A8,n8,c8,rfl,p8,by omega,(SX.below HB.out (by omega))⟩
def PNx (w:World)(gp go:Nat)(T P O:Int)(e:Ending)(w':World):Prop:=∃s A n c s6 A6 n6 c6,e= .returned (.agg #[.bool s,.slice A n c])/\Wn w' s A n c T/\n<=8/\Bo w' gp #[.bool s6,.slice A6 n6 c6] 27/\Wn w' s6 A6 n6 c6 P/\n6<=10/\Bo w' go #[.int .i64 O] 3/\Duo gp go w w'
theorem cNext{w:World}{gp go gb k:Nat}{s6 s7:Bool}{A6 A7:Option Addr}{n6 c6 n7 c7:Nat}{p n T:Int}(XP:Bo w gp #[.bool s6,.slice A6 n6 c6] 27)(XO:Bo w go #[.int .i64 (2*(k:Int)+1)] 3)(XB:Bo w gb #[.bool s7,.slice A7 n7 c7] 27)(p6:Wn w s6 A6 n6 c6 p)(p7:Wn w s7 A7 n7 c7 n)(k6:n6<=10)(k7:n7<=2)(hpo:gp≠go)(hpb:gp≠gb)(hob:go≠gb)
  (hk:k<=1000) (hp:0 < p) (hp2:p<=SC*1000000) (h1:2<=n) (h2:n<=1000) (hT:SC.fdiv (p*(2*(k:Int)+1))=T):
  Calls Tryz.prog 252 #[.pointer (some ⟨gp,0,none⟩),.pointer (some ⟨go,0,none⟩),.pointer (some ⟨gb,0,none⟩)] w (PNx w gp go T (p*(n*n)) (2*(k:Int)+3)):=by
 have HT:=ie hT
 have HY:Hid (prd [p,2*(k:Int)+1]=p*(2*(k:Int)+1)):=ie (by show 1*p*(2*(k:Int)+1)=_;rw[Int.one_mul])
 have H0:Hid (p*(2*(k:Int)+1)≠0):=ie (by have:=Int.mul_pos hp (show (0:Int) < 2*(k:Int)+1 by omega);omega)
 have HM:Hid (prd [p,n,n]=p*(n*n)):=ie (by show 1*p*n*n=_;rw[Int.one_mul,Int.mul_assoc])
 have HTB:=ie (term_bd hp hT);have HPB:=ie (power_bd hp hp2 h1 h2)
 have HW1:Hid (IntKind.i64.wrap (2*(k:Int)+1+2)=2*(k:Int)+3):=ie (by rw[show 2*(k:Int)+1+2=2*(k:Int)+3 by omega];exact IntWalk.i64_in _ (by omega))
 have HW2:Hid (wrap64 (2*(k:Int)+1+2)=2*(k:Int)+3):=ie (by rw[show 2*(k:Int)+1+2=2*(k:Int)+3 by omega];exact IntWalk.wrap64_in _ (by omega))
 have HK:Hid (2*(k:Int)+1<=3000):=ie (by omega)
 have G1:=XP.lt;have G2:=XO.lt;have G3:=XB.lt;clear hT hp hp2 h1 h2
 go_enter Tryz.func252,Tryz.ntmps252
 go_upto_region 1 with (fail)
 have XR:=Bo.newAt w (g:=w.heap.size) rfl #[.bool false,.slice none 0 0] 27
 have HB:Hid (Duo gp go w (World.alloc w (.cells #[.bool false,.slice none 0 0] 27))):=ie (.of (bel1 w (.cells #[.bool false,.slice none 0 0] 27)))
 replace XP:=XP.below (bel1 w (.cells #[.bool false,.slice none 0 0] 27));replace XO:=XO.below (bel1 w (.cells #[.bool false,.slice none 0 0] 27));replace XB:=XB.below (bel1 w (.cells #[.bool false,.slice none 0 0] 27));replace p6:=p6.below (bel1 w (.cells #[.bool false,.slice none 0 0] 27));replace p7:=p7.below (bel1 w (.cells #[.bool false,.slice none 0 0] 27));generalize hW1:World.alloc w (.cells #[.bool false,.slice none 0 0] 27)=w1 at *
 clear hW1;have ltXP:=XP.lt;have ltXO:=XO.lt;have ltXB:=XB.lt;have ltXR:=XR.lt;refine jk [0,1,2,3,4,5] [some 5,some 6,some 7,some 8,some 9,some 4,none] [[],[],[1],[0,2],[3],[],[]] 7 1 [Jo.Fact.eq (.agg #[.bool s6,.slice A6 n6 c6]),Jo.Fact.eq (.int .i64 (2*(k:Int)+1)),Jo.Fact.wn (2*(k:Int)+1) (2),Jo.Fact.wl 10 2 [p,2*(k:Int)+1],Jo.Fact.wn (T) (8),Jo.Fact.bo w1.heap.size #[.bool false,.slice none 0 0] 27,Jo.Fact.any] ?_ ?_
 ·refine jm ?_ ?_
  ·rintro wj hJ K hK;simp only[Jo.z]at hK|-;have xXP:=(XP.b hJ).cell;go_simp;exact hK.out _ _ rfl (br _ _)
  refine jm ?_ ?_
  ·rintro wj hJ K hK;simp only[Jo.z]at hK|-;have xXO0:=(XO.b hJ).a 0 (.int .i64 (2*(k:Int)+1)) rfl;go_simp;exact hK.out _ _ rfl (br _ _)
  refine jm ?_ ?_
  ·rintro wj hJ _ rfl K hK;simp only[Jo.z]at hK|-;go_simp;exact Jo.w1 (wFrom _ _ (by omega) (by omega)) hK.out
  refine jm ?_ ?_
  ·rintro wj hJ _ rfl _ ⟨s20,A20,n20,c20,rfl,p20,k20⟩ K hK;simp only[Jo.z]at hK|-;go_simp;exact hK.out _ _ ⟨_,_,rfl,Wl.lit2 rfl (p6.b hJ).wr p20.wr (by omega) (by omega)⟩ (bel1 _ _)
  refine jm ?_ ?_
  ·rintro wj hJ _ ⟨A25,c25,rfl,h25⟩ K hK;simp only[Jo.z]at hK|-;go_simp;refine(cPiece h25 (by decide) HY.out H0.out HT.out).mono ?_;rintro ee wk ⟨s21,A21,n21,c21,rfl,p21,k21,B⟩;exact hK.out _ _ ⟨s21,A21,n21,c21,rfl,p21,(p21.fits (small8 HTB.out))⟩ B
  refine jm ?_ ?_
  ·rintro wj hJ K hK;simp only[Jo.z]at hK|-;go_simp;exact hK.out _ _ ⟨_,rfl,hJ.size,Bo.new _ _ _⟩ (bel1 _ _)
  exact jo
 rintro w2 hJ _ rfl _ rfl _ ⟨s20,A20,n20,c20,rfl,p20,k20⟩ _ ⟨_,_,rfl,_⟩ _ ⟨s21,A21,n21,c21,rfl,p21,k21⟩ _ ⟨g8,rfl,hg8,X8⟩ -;simp only[Jo.z];replace XP:=XP.b hJ;replace XO:=XO.b hJ;replace XB:=XB.b hJ;replace XR:=XR.b hJ;replace p6:=p6.b hJ;replace p7:=p7.b hJ;replace HB:=ie (HB.out.mv hJ);have xX8:=X8.cell;have zX80:=X8.frozen
 refine jn 6 fun K hK=>?_
 go_simp;refine hK.out _ _ ?_;clear hK K xX8 zX80;generalize hS:(w2.setCell _ _).setCell _ _=w3 at *;have SX:=StN.of2 X8 hS;replace XP:=XP.s SX;replace XO:=XO.s SX;replace XB:=XB.s SX;replace XR:=XR.s SX;replace p6:=p6.s SX;replace p7:=p7.s SX;replace p21:=p21.s SX
 replace HB:=ie (HB.out.stn SX (by omega));replace X8:=SX.box;clear SX hS;refine jd ?_;have xXP:=XP.cell;have xXB:=XB.cell
 go_wp2_with fail
 refine(wMul (Wl.lit3 (K:=10) rfl p6.wr p7.wr p7.wr (by omega) (by omega) (by omega)) (by decide) HM.out).mono ?_;rintro ee w4 ⟨s22,A22,n22,c22,rfl,p22,k22,B⟩;replace B:=bt (bel1 _ _) B;clear xXP xXB;replace XP:=XP.b B;replace XO:=XO.b B;replace XR:=XR.b B;replace X8:=X8.b B;replace p21:=p21.b B;replace HB:=ie (HB.out.mv B);clear B p6 p7
 replace k22:n22<=10:=p22.fits (small10 HPB.out)
 have xXP:=XP.cell;have zXP0:=XP.frozen
 go_upto_region 3 with (fail)
 clear xXP zXP0;generalize hS:(w4.setCell _ _).setCell _ _=w5 at *;have SX:=StN.of2 XP hS;replace XO:=XO.s SX;replace XR:=XR.s SX;replace X8:=X8.s SX;replace p21:=p21.s SX;replace p22:=p22.s SX;replace HB:=ie (HB.out.stn SX (by omega));replace XP:=SX.box;clear SX hS;have hw1:=HW1.out
 have hw2:=HW2.out;have xXO0:=XO.a 0 (.int .i64 (2*(k:Int)+1)) rfl;have zXO0:=XO.frozen 0
 go_upto_region 4 with (fail)
 clear hw1 hw2;clear xXO0 zXO0
 have SX:StN w5 (World.setCell w5 ⟨go,0,none⟩ (.int .i64 (2*(k:Int)+3))) _ _ #[.int .i64 (2*(k:Int)+3)] _:=StN.at4 XO 0 (.int .i64 (2*(k:Int)+3))
 replace XP:=XP.s SX;replace XR:=XR.s SX;replace X8:=X8.s SX;replace p21:=p21.s SX;replace p22:=p22.s SX;replace HB:=ie (HB.out.stn SX (by omega));replace XO:=SX.box;clear SX;generalize World.setCell w5 ⟨go,0,none⟩ (.int .i64 (2*(k:Int)+3))=w6 at *;have xXR:=XR.cell;have zXR0:=XR.frozen
 have xX8:=X8.cell;go_wp2;clear xXR zXR0 xX8;generalize hS:(w6.setCell _ _).setCell _ _=w7 at *;have SX:=StN.of2 XR hS;replace XP:=XP.s SX;replace XO:=XO.s SX;replace p21:=p21.s SX;replace p22:=p22.s SX;replace HB:=ie (HB.out.stn SX (by omega));replace XR:=SX.box;clear SX hS;exact bq (v:= .agg #[.bool s21,.slice A21 n21 c21]) (by simp[results,Tryz.results252,go_sem,XR.cell]) rfl ⟨s21,A21,n21,c21,s22,A22,n22,c22,rfl,p21,k21,XP,p22,k22,XO,HB.out⟩
theorem cTerms{w:World}{n:Int}(h1:2<=n)(h2:n<=1000):Calls Tryz.prog 227 #[.int .i64 n] w (fun e w'=>∃gp go gb s6 A6 n6 c6 s7 A7 n7 c7,e= .returned (.func (.func 252) #[] #[.pointer (some ⟨gp,0,none⟩),.pointer (some ⟨go,0,none⟩),.pointer (some ⟨gb,0,none⟩)])/\Bo w' gp #[.bool s6,.slice A6 n6 c6] 27/\Bo w' go #[.int .i64 1] 3/\Bo w' gb #[.bool s7,.slice A7 n7 c7] 27/\Wn w' s6 A6 n6 c6 n/\Wn w' s7 A7 n7 c7 n/\n6<=2/\n7<=2/\gp≠go/\gp≠gb/\go≠gb/\w.heap.size<=gp/\w.heap.size<=go/\Below w.heap.size w w'):=by
 have hmf:∀(fn:Fn) (first cap:Array Value) (w:World),(Instr.makeFunc fn first cap).run Tryz.prog w= .ok (.func fn first cap) w:=fun _ _ _ _=>rfl
 have HB:=ie (Below.refl w.heap.size w)
 go_enter Tryz.func227,Tryz.ntmps227
 go_wp2_with fail
 refine(wFrom n _ (by omega) (by omega)).mono ?_;rintro ee w2 ⟨s7,A7,n7,c7,rfl,p7,k7,B⟩;replace HB:=Hqb HB B;clear B
 go_wp2_with fail
 refine(wFrom n _ (by omega) (by omega)).mono ?_;rintro ee w3 ⟨s6,A6,n6,c6,rfl,p6,k6,B⟩;replace p7:=p7.b B;replace HB:=Hqb HB B;clear B;have hsz:=HB.out.size
 go_upto_region 2 with (fail)
 have e4XP:(World.alloc w3 (.cells #[.bool s7,.slice A7 n7 c7] 27)).heap.size=w3.heap.size+1:=by simp
 have e4XO:(World.alloc (World.alloc w3 (.cells #[.bool s7,.slice A7 n7 c7] 27)) (.cells #[.bool s6,.slice A6 n6 c6] 27)).heap.size=w3.heap.size+1+1:=by simp
 have BX:=bel1 w3 (.cells #[.bool s7,.slice A7 n7 c7] 27);replace p6:=p6.b BX;replace p7:=p7.b BX;replace HB:=ie (bt HB.out BX);have XB:=Bo.new w3 #[.bool s7,.slice A7 n7 c7] 27;generalize hWn:World.alloc w3 (.cells #[.bool s7,.slice A7 n7 c7] 27)=w4 at *;clear hWn;have nXPXB:=XB.lt
 generalize hWn:w4.alloc _=w5 at *;obtain⟨XP,BW⟩:=Bo.nw hWn;clear hWn;replace XB:=XB.b BW;replace p6:=p6.b BW;replace p7:=p7.b BW;replace HB:=Hqb HB BW;clear BW;have nXOXB:=XB.lt;have nXOXP:=XP.lt;generalize hWn:w5.alloc _=w6 at *;obtain⟨XO,BW⟩:=Bo.nw hWn;clear hWn;replace XB:=XB.b BW;replace XP:=XP.b BW;replace p6:=p6.b BW
 replace p7:=p7.b BW;replace HB:=Hqb HB BW;clear BW;rw[e4XP]at XP;rw[e4XO]at XO;go_wp2;exact bq (v:= .func (.func 252) #[] #[.pointer (some ⟨w3.heap.size+1,0,none⟩),.pointer (some ⟨w3.heap.size+1+1,0,none⟩),.pointer (some ⟨w3.heap.size,0,none⟩)]) (by simp[results,Tryz.results227,go_sem]) rfl ⟨_,_,_,_,_,_,_,_,_,_,_,rfl,XP,XO,XB,p6,p7,k6,k7,by omega,by omega,by omega,by omega,by omega,HB.out⟩
theorem inv_step{n p s:Int}{k:Nat}{R:Int × Nat}(hn:2<=n)(hk:k<=100)(hp:(2:Int)^(2*k+1)<=p)(h:invG n (200-k) k s p=R):∃T:Int,SC.fdiv (p*(2*(k:Int)+1))=T/\p*(2*(k:Int)+1)≠0/\0<=T/\(T=0->(s,k)=R)/\
  (T≠0->k+1<=100/\(2:Int)^(2*(k+1)+1)<=p*(n*n)/\invG n (200-(k+1)) (k+1) (if k%2=1 then s+ -T else s+T) (p*(n*n))=R):=by
 have p2:(0:Int) < 2^(2*k+1):=Int.pow_pos (by decide)
 have pp:0 < p:=by omega
 have hd:0 < p*(2*(k:Int)+1):=Int.mul_pos pp (by omega)
 have hf:SC.fdiv (p*(2*(k:Int)+1))=SC/ (p*(2*(k:Int)+1)):=Int.fdiv_eq_ediv_of_nonneg _ (by omega)
 refine⟨_,hf,by omega,Int.ediv_nonneg (by decide) (by omega),fun e=>?_,fun e=>?_⟩
 ·rw[show 200-k=(199-k)+1 by omega]at h
  unfold invG at h
  rw[if_pos e]at h;exact h
 ·rw[show 200-k=(200-(k+1))+1 by omega]at h
  unfold invG at h
  rw[if_neg e]at h
  have le:p*(2*(k:Int)+1)<=SC:=by
   rcases Int.lt_or_le SC (p*(2*(k:Int)+1))with c | c
   ·exact absurd (Int.ediv_eq_zero_of_lt (by decide) c) e
   ·exact c
  have le2:p<=SC:=Int.le_trans (by
   have:p*1<=p*(2*(k:Int)+1):=Int.mul_le_mul_of_nonneg_left (by omega) (by omega)
   omega) le
  refine⟨?_,?_,h⟩
  ·rcases Nat.lt_or_ge k 100 with c | c
   ·omega
   ·exfalso
    have hk2:k=100:=by omega
    subst hk2
    have:(2:Int)^(2*100+1)<=SC:=Int.le_trans hp le2
    revert this
    decide
  ·rw[show 2*(k+1)+1=(2*k+1)+2 by omega,Int.pow_add]
   have h4:(2:Int)^2<=n*n:=by
    have a:(2:Int)*2<=n*2:=Int.mul_le_mul_of_nonneg_right hn (by decide)
    have b:n*2<=n*n:=Int.mul_le_mul_of_nonneg_left hn (by omega)
    show (4:Int)<=n*n
    omega
   exact Int.mul_le_mul hp h4 (by decide) (by omega)
def AInv (w:World)(n:Int)(R:Int × Nat)(gp go gb gs:Nat)(s7:Bool)(A7:Option Addr)(n7 c7 k gt:Nat)(wr:World):Prop:=∃(s p T:Int) (s4:Bool) (A4:Option Addr) (n4 c4:Nat) (s5:Bool) (A5:Option Addr) (n5 c5:Nat) (s6:Bool) (A6:Option Addr) (n6 c6:Nat),
 Bo wr w.heap.size #[.bool false,.slice none 0 0] 27/\Bo wr gs #[.bool s4,.slice A4 n4 c4] 27/\Bo wr gt #[.bool s5,.slice A5 n5 c5] 27/\Bo wr gp #[.bool s6,.slice A6 n6 c6] 27/\Bo wr go #[.int .i64 (2*(k:Int)+3)] 3/\Bo wr gb #[.bool s7,.slice A7 n7 c7] 27/\
 Wn wr s4 A4 n4 c4 s/\Wn wr s5 A5 n5 c5 T/\Wn wr s6 A6 n6 c6 (p*(n*n))/\Wn wr s7 A7 n7 c7 n/\n4<=1000*k/\n5<=8/\n6<=10/\k<=100/\w.heap.size < gt/\gs≠gt/\(2:Int)^(2*k+1)<=p/\p<=SC*1000000/\invG n (200-k) k s p=R/\SC.fdiv (p*(2*(k:Int)+1))=T/\Duo gp go w wr
def PAl (w:World)(gp go:Nat)(R:Int × Nat)(e:Ending)(w':World):Prop:=∃s A m c,e= .returned (.tuple #[.agg #[.bool s,.slice A m c],.int .i64 (R.2:Int)])/\Wn w' s A m c R.1/\m<=200000/\R.2<=100/\Duo gp go w w'
theorem pow_pos2{k:Nat}{p:Int}(h:(2:Int)^(2*k+1)<=p):0 < p:=Int.lt_of_lt_of_le (Int.pow_pos (by decide)) h
theorem next_bd{p n T:Int}{k:Nat}(hp:(2:Int)^(2*k+1)<=p)(hT:SC.fdiv (p*(2*(k:Int)+1))=T)(h1:2<=n)(h2:n<=1000)(hc:T≠0):p*(n*n)<=SC*1000000:=by
 have a:=pow_pos2 hp;have b:=term_le a hT hc
 have d:n*n<=1000*1000:=Int.mul_le_mul h2 h2 (by omega) (by decide)
 exact Int.mul_le_mul b (by omega) (Int.mul_nonneg (by omega) (by omega)) (by decide)
theorem sum_step{R:Int × Nat}{n p s T:Int}{k f:Nat}(h:invG n f (k+1) (if k%2=1 then s+ -T else s+T) p=R):(k%2=1->invG n f (k+1) (s-T) p=R)/\(¬k%2=1->invG n f (k+1) (s+T) p=R):=by
 constructor <;> intro c
 ·rw[if_pos c]at h;exact h
 ·rw[if_neg c]at h;exact h
theorem cAlt{w:World}{gp go gb:Nat}{s6 s7:Bool}{A6 A7:Option Addr}{n6 c6 n7 c7:Nat}{n:Int}{R:Int × Nat}(XP:Bo w gp #[.bool s6,.slice A6 n6 c6] 27)(XO:Bo w go #[.int .i64 1] 3)(XB:Bo w gb #[.bool s7,.slice A7 n7 c7] 27)(p6:Wn w s6 A6 n6 c6 n)(p7:Wn w s7 A7 n7 c7 n)(k6:n6<=2)(k7:n7<=2)(hpo:gp≠go)(hpb:gp≠gb)(hob:go≠gb)(h1:2<=n)(h2:n<=1000)(hR:invG n 200 0 0 n=R):
  Calls Tryz.prog 226 #[.func (.func 252) #[] #[.pointer (some ⟨gp,0,none⟩),.pointer (some ⟨go,0,none⟩),.pointer (some ⟨gb,0,none⟩)]] w (PAl w gp go R):=by
 have HR:=ie hR;have G1:=XP.lt;have G2:=XO.lt;have G3:=XB.lt;obtain⟨T0,hn0⟩:∃T0,SC.fdiv (n*(2*((0:Nat):Int)+1))=T0:=⟨_,rfl⟩;have HN0:=ie hn0;clear hn0;clear hR
 go_enter Tryz.func226,Tryz.ntmps226
 go_upto_region 1 with (fail)
 have XR:=Bo.newAt w (g:=w.heap.size) rfl #[.bool false,.slice none 0 0] 27
 have HB:Hid (Duo gp go w (World.alloc w (.cells #[.bool false,.slice none 0 0] 27))):=ie (.of (bel1 w (.cells #[.bool false,.slice none 0 0] 27)))
 replace XP:=XP.below (bel1 w (.cells #[.bool false,.slice none 0 0] 27));replace XO:=XO.below (bel1 w (.cells #[.bool false,.slice none 0 0] 27));replace XB:=XB.below (bel1 w (.cells #[.bool false,.slice none 0 0] 27));replace p6:=p6.below (bel1 w (.cells #[.bool false,.slice none 0 0] 27));replace p7:=p7.below (bel1 w (.cells #[.bool false,.slice none 0 0] 27));generalize hW1:World.alloc w (.cells #[.bool false,.slice none 0 0] 27)=w1 at *
 clear hW1
 go_upto_region 2 with (fail)
 have nX4XP:=XP.lt;have nX4XO:=XO.lt;have nX4XB:=XB.lt;have nX4XR:=XR.lt;generalize hWn:w1.alloc _=w2 at *;obtain⟨X4,BW⟩:=Bo.nw hWn;clear hWn;replace XP:=XP.b BW;replace XO:=XO.b BW;replace XB:=XB.b BW;replace XR:=XR.b BW;replace p6:=p6.b BW;replace p7:=p7.b BW;replace HB:=ie (HB.out.mv BW);clear BW;have ltXP:=XP.lt;have ltXO:=XO.lt
 have ltXB:=XB.lt;have ltXR:=XR.lt;have ltX4:=X4.lt
 have gS:w.heap.size < w1.heap.size:=nX4XR
 have gO:go < w1.heap.size:=nX4XO
 have gP:gp < w1.heap.size:=nX4XP
 have gB:gb < w1.heap.size:=nX4XB
 clear nX4XR nX4XO nX4XP nX4XB ltXR ltXO ltXP ltXB;generalize w1.heap.size=gs at *
 have XO1:Bo w2 go #[.int .i64 (2*((0:Nat):Int)+1)] 3:=XO
 clear XO;have XO:=XO1;clear XO1;have hsz:=HB.out.size
 go_wp2_with fail
 refine(cNext (k:=0) XP XO XB p6 p7 (by omega) k7 hpo hpb hob (by decide) (by omega) (Int.le_trans h2 (by decide)) h1 h2 HN0.out).mono ?_;rintro ee w3 ⟨s15,A15,n15,c15,s16,A16,n16,c16,rfl,p15,k15,YP,p16,k16,YO,B⟩;replace XB:=XB.duo B (by omega) (by omega);replace XR:=XR.duo B (by omega) (by omega);replace X4:=X4.duo B (by omega) (by omega);replace p6:=p6.duo XP XO (by simp[no32]) (by simp[no32]) B
 replace p7:=p7.duo XP XO (by simp[no32]) (by simp[no32]) B;replace HB:=ie (HB.out.trans B);have hszB:=B.size;clear B p6 XP XO;have XP:=YP;have XO:=YO;clear YP YO
 go_upto_region 3 with (fail)
 have nX5XP:=XP.lt;have nX5XO:=XO.lt;have nX5XB:=XB.lt;have nX5XR:=XR.lt;have nX5X4:=X4.lt;generalize hWn:w3.alloc _=w4 at *;obtain⟨X5,BW⟩:=Bo.nw hWn;clear hWn;replace XP:=XP.b BW;replace XO:=XO.b BW;replace XB:=XB.b BW;replace XR:=XR.b BW;replace X4:=X4.b BW;replace p7:=p7.b BW;replace p15:=p15.b BW;replace p16:=p16.b BW
 replace HB:=ie (HB.out.mv BW);clear BW;clear nX5XR nX5XP nX5XO nX5XB
 have hI0:AInv w n R gp go gb gs s7 A7 n7 c7 0 w3.heap.size w4:=⟨0,n,_,_,_,_,_,_,_,_,_,_,_,_,_,XR,X4,X5,XP,XO,XB,⟨Nm.zero,rfl⟩,p15,p16,p7,Nat.zero_le _,k15,k16,by decide,by omega,by omega,by simpa using h1,Int.le_trans h2 (by decide),HR.out,HN0.out,HB.out⟩
 have HI0:=ie hI0;clear hI0 XR X4 X5 XP XO XB p7 p15 p16 HB HR HN0;go_wp2
 go_loopw [5,6] (fun i pt wr=>∃k gt:Nat,i= .int .i64 k/\pt= .pointer (some ⟨gt,0,none⟩)/\AInv w n R gp go gb gs s7 A7 n7 c7 k gt wr) (fun i _ _=>200-(intOf i).toNat)
 case atStart=>exact ⟨0,_,rfl,rfl,HI0.out⟩
 case round=>
  obtain⟨k,gt,rfl,rfl,s,p,T,s4,A4,n4,c4,s5,A5,n5,c5,s6,A6,n6,c6,XR,X4,X5,XP,XO,XB,p4,p5,p6,p7,k4,k5,k6,hk,hgt,hst,hp,hpS,hG,hT,hB⟩:=hrel;have HB:=ie hB;obtain⟨T',hT',hd0,hT0,hz,hnz⟩:=inv_step h1 hk hp hG
  obtain rfl:T'=T:=hT'.symm.trans hT
  have HT:=ie hT;have HZ:=ie hz;have HNZ:=ie hnz
  have HNB:Hid (T'≠0->p*(n*n)<=SC*1000000):=ie (fun hc=>next_bd hp hT h1 h2 hc)
  clear hB HI0 hG hT hT' hz hnz hd0;have hsz:=HB.out.size;have ltXP:=XP.lt;have ltXO:=XO.lt;have ltXB:=XB.lt;have ltXR:=XR.lt;have ltX4:=X4.lt;have ltX5:=X5.lt
  by_cases hc:T'=0
  ·have HS:Hid (cmpI T' 0=0):=ie (by rw[hc];decide)
   have hsk:=HZ.out hc;subst hsk;clear HZ HNZ HNB hp hpS;have xX5:=X5.cell
   go_wp2_with fail
   refine(wSign p5.wr HS.out).mono ?_;rintro ee w5 ⟨rfl,B⟩;clear xX5;replace XP:=XP.b B;replace XO:=XO.b B;replace XB:=XB.b B;replace XR:=XR.b B;replace X4:=X4.b B;replace X5:=X5.b B;replace p4:=p4.b B;replace p5:=p5.b B;replace p6:=p6.b B;replace p7:=p7.b B;replace HB:=ie (HB.out.mv B);clear B;clear p5 p6 p7
   clear X5 XP XO XB;have xX4:=X4.cell;have xXR:=XR.cell;have zXR0:=XR.frozen;go_wp2;clear xX4 xXR zXR0;generalize hS:(w5.setCell _ _).setCell _ _=w6 at *;have SX:=StN.of2 XR hS;replace X4:=X4.s SX;replace p4:=p4.s SX;replace HB:=ie (HB.out.stn SX (by omega));replace XR:=SX.box;clear SX hS;exact bq (v:= .tuple #[.agg #[.bool s4,.slice A4 n4 c4],.int .i64 (k:Int)]) (by simp[results,Tryz.results226,go_sem,XR.cell]) rfl ⟨s4,A4,n4,c4,rfl,p4,by omega,hk,HB.out⟩
  ·have HS:Hid (cmpI T' 0=1):=ie (cmpI_gt (by omega))
   obtain⟨hk1,hp1,hG1⟩:=HNZ.out hc;have HP1:=ie hp1;have HP2:=ie (HNB.out hc);obtain⟨ho,he⟩:=sum_step hG1;have HO:=ie ho;have HE:=ie he;have HW4:=iw ((k:Int)+1);have HW5:=jw ((k:Int)+1);clear HZ HNZ HNB hp1 hG1 hT0 ho he hp hpS;have xX5:=X5.cell
   go_wp2_with fail
   refine(wSign p5.wr HS.out).mono ?_;rintro ee w5 ⟨rfl,B⟩;clear xX5;replace XP:=XP.b B;replace XO:=XO.b B;replace XB:=XB.b B;replace XR:=XR.b B;replace X4:=X4.b B;replace X5:=X5.b B;replace p4:=p4.b B;replace p5:=p5.b B;replace p6:=p6.b B;replace p7:=p7.b B;replace HB:=ie (HB.out.mv B);clear B
   by_cases hodd:k%2=1
   ·have HF:=ie (HO.out hodd);clear HO HE
    have t9:(Int.tmod (k:Int) 2==0)=false:=by
     rw[show Int.tmod (k:Int) 2=1 by rw[Int.tmod_eq_emod_of_nonneg (by omega)];omega]
     rfl
    have xX4:=X4.cell;have xX5:=X5.cell
    go_wp2_with fail
    refine(wSub p4.wr p5.wr (by omega) (by omega) rfl).mono ?_;rintro ee w6 ⟨s24,A24,n24,c24,rfl,p24,k24,B⟩;clear xX4 xX5;replace XP:=XP.b B;replace XO:=XO.b B;replace XB:=XB.b B;replace XR:=XR.b B;replace X4:=X4.b B;replace X5:=X5.b B;replace p4:=p4.b B;replace p5:=p5.b B;replace p6:=p6.b B;replace p7:=p7.b B
    replace HB:=ie (HB.out.mv B);clear B;clear p4 t9 hodd;have xX4:=X4.cell;have zX40:=X4.frozen
    go_upto_region 9 with (fail)
    clear xX4 zX40;generalize hS:(w6.setCell _ _).setCell _ _=w7 at *;have SX:=StN.of2 X4 hS;replace XP:=XP.s SX;replace XO:=XO.s SX;replace XB:=XB.s SX;replace XR:=XR.s SX;replace X5:=X5.s SX;replace p5:=p5.s SX;replace p6:=p6.s SX;replace p7:=p7.s SX
    replace p24:=p24.s SX;replace HB:=ie (HB.out.stn SX (by omega));replace X4:=SX.box;clear SX hS;have hw4:=HW4.out;have hw5:=HW5.out;have xX5:=X5.cell
    go_upto_region 4 with (fail)
    clear xX5;clear hw4 hw5 X5;have nX7XP:=XP.lt;have nX7XO:=XO.lt;have nX7XB:=XB.lt;have nX7XR:=XR.lt;have nX7X4:=X4.lt;generalize hWn:w7.alloc _=w7a at *;obtain⟨X7,BW⟩:=Bo.nw hWn;clear hWn;replace XP:=XP.b BW;replace XO:=XO.b BW;replace XB:=XB.b BW;replace XR:=XR.b BW;replace X4:=X4.b BW;replace p5:=p5.b BW;replace p6:=p6.b BW
    replace p7:=p7.b BW;replace p24:=p24.b BW;replace HB:=ie (HB.out.mv BW);clear BW;have ltXP:=XP.lt;have ltXO:=XO.lt;have ltXB:=XB.lt;have ltXR:=XR.lt;have ltX4:=X4.lt;have ltX7:=X7.lt;have hsz7:=HB.out.size
    have g7:gs < w7.heap.size:=nX7X4
    have g7p:gp < w7.heap.size:=nX7XP
    have g7o:go < w7.heap.size:=nX7XO
    have g7b:gb < w7.heap.size:=nX7XB
    have g7r:w.heap.size < w7.heap.size:=nX7XR
    clear p5
    have XO1:Bo w7a go #[.int .i64 (2*((k+1:Nat):Int)+1)] 3:=by
     rw[show 2*((k+1:Nat):Int)+1=2*(k:Int)+3 by omega]
     exact XO
    clear XO;have XO:=XO1;clear XO1;obtain⟨T2,hT2⟩:∃T2,SC.fdiv (p*(n*n)*(2*((k+1:Nat):Int)+1))=T2:=⟨_,rfl⟩
    go_wp2_with fail
    refine(cNext (k:=k+1) XP XO XB p6 p7 k6 k7 hpo hpb hob (by omega) (pow_pos2 HP1.out) HP2.out h1 h2 hT2).mono ?_;rintro ee w7b ⟨s15,A15,n15,c15,s16,A16,n16,c16,rfl,p15,k15,YP,p16,k16,YO,B⟩;replace XB:=XB.duo B (by omega) (by omega);replace XR:=XR.duo B (by omega) (by omega);replace X4:=X4.duo B (by omega) (by omega);replace X7:=X7.duo B (by omega) (by omega)
    replace p24:=p24.duo XP XO (by simp[no32]) (by simp[no32]) B;replace p6:=p6.duo XP XO (by simp[no32]) (by simp[no32]) B;replace p7:=p7.duo XP XO (by simp[no32]) (by simp[no32]) B;replace HB:=ie (HB.out.trans B);have hszB:=B.size;clear B p6 XP XO;have XP:=YP;have XO:=YO;clear YP YO;have xX7:=X7.cell;have zX70:=X7.frozen;go_wp2;clear xX7 zX70
    generalize hS:(w7b.setCell _ _).setCell _ _=w7c at *;have SX:=StN.of2 X7 hS;replace XP:=XP.s SX;replace XO:=XO.s SX;replace XB:=XB.s SX;replace XR:=XR.s SX;replace X4:=X4.s SX;replace p24:=p24.s SX;replace p7:=p7.s SX;replace p15:=p15.s SX
    replace p16:=p16.s SX;replace HB:=ie (HB.out.stn SX (by omega));replace X7:=SX.box;clear SX hS
    go_roundw
    case rel=>exact ⟨k+1,w7.heap.size,by go_num,rfl,_,_,_,_,_,_,_,_,_,_,_,_,_,_,_,XR,X4,X7,XP,XO,XB,p24,p15,p16,p7,by omega,k15,k16,hk1,by omega,by omega,HP1.out,HP2.out,HF.out,hT2,HB.out⟩
    case measure=>simp [intOf];omega
   ·have HF:=ie (HE.out hodd);clear HO HE
    have t9:(Int.tmod (k:Int) 2==0)=true:=by
     rw[show Int.tmod (k:Int) 2=0 by rw[Int.tmod_eq_emod_of_nonneg (by omega)];omega]
     rfl
    have xX4:=X4.cell;have xX5:=X5.cell
    go_wp2_with fail
    refine(wAdd p4.wr p5.wr (by omega) (by omega) rfl).mono ?_;rintro ee w6 ⟨s24,A24,n24,c24,rfl,p24,k24,B⟩;clear xX4 xX5;replace XP:=XP.b B;replace XO:=XO.b B;replace XB:=XB.b B;replace XR:=XR.b B;replace X4:=X4.b B;replace X5:=X5.b B;replace p6:=p6.b B;replace p7:=p7.b B;replace HB:=ie (HB.out.mv B);clear B
    clear p4 t9 hodd;have xX4:=X4.cell;have zX40:=X4.frozen
    go_upto_region 9 with (fail)
    clear xX4 zX40;generalize hS:(w6.setCell _ _).setCell _ _=w7 at *;have SX:=StN.of2 X4 hS;replace XP:=XP.s SX;replace XO:=XO.s SX;replace XB:=XB.s SX;replace XR:=XR.s SX;replace X5:=X5.s SX;replace p6:=p6.s SX;replace p7:=p7.s SX;replace p24:=p24.s SX
    replace HB:=ie (HB.out.stn SX (by omega));replace X4:=SX.box;clear SX hS;have hw4:=HW4.out;have hw5:=HW5.out;have xX5:=X5.cell
    go_upto_region 4 with (fail)
    clear xX5;clear hw4 hw5 X5;have nX7XP:=XP.lt;have nX7XO:=XO.lt;have nX7XB:=XB.lt;have nX7XR:=XR.lt;have nX7X4:=X4.lt;generalize hWn:w7.alloc _=w7a at *;obtain⟨X7,BW⟩:=Bo.nw hWn;clear hWn;replace XP:=XP.b BW;replace XO:=XO.b BW;replace XB:=XB.b BW;replace XR:=XR.b BW;replace X4:=X4.b BW;replace p6:=p6.b BW;replace p7:=p7.b BW
    replace p24:=p24.b BW;replace HB:=ie (HB.out.mv BW);clear BW;have ltXP:=XP.lt;have ltXO:=XO.lt;have ltXB:=XB.lt;have ltXR:=XR.lt;have ltX4:=X4.lt;have ltX7:=X7.lt;have hsz7:=HB.out.size
    have g7:gs < w7.heap.size:=nX7X4
    have g7p:gp < w7.heap.size:=nX7XP
    have g7o:go < w7.heap.size:=nX7XO
    have g7b:gb < w7.heap.size:=nX7XB
    have g7r:w.heap.size < w7.heap.size:=nX7XR
    clear p5
    have XO1:Bo w7a go #[.int .i64 (2*((k+1:Nat):Int)+1)] 3:=by
     rw[show 2*((k+1:Nat):Int)+1=2*(k:Int)+3 by omega]
     exact XO
    clear XO;have XO:=XO1;clear XO1;obtain⟨T2,hT2⟩:∃T2,SC.fdiv (p*(n*n)*(2*((k+1:Nat):Int)+1))=T2:=⟨_,rfl⟩
    go_wp2_with fail
    refine(cNext (k:=k+1) XP XO XB p6 p7 k6 k7 hpo hpb hob (by omega) (pow_pos2 HP1.out) HP2.out h1 h2 hT2).mono ?_;rintro ee w7b ⟨s15,A15,n15,c15,s16,A16,n16,c16,rfl,p15,k15,YP,p16,k16,YO,B⟩;replace XB:=XB.duo B (by omega) (by omega);replace XR:=XR.duo B (by omega) (by omega);replace X4:=X4.duo B (by omega) (by omega);replace X7:=X7.duo B (by omega) (by omega)
    replace p24:=p24.duo XP XO (by simp[no32]) (by simp[no32]) B;replace p7:=p7.duo XP XO (by simp[no32]) (by simp[no32]) B;replace HB:=ie (HB.out.trans B);have hszB:=B.size;clear B p6 XP XO;have XP:=YP;have XO:=YO;clear YP YO;have xX7:=X7.cell;have zX70:=X7.frozen;go_wp2;clear xX7 zX70;generalize hS:(w7b.setCell _ _).setCell _ _=w7c at *
    have SX:=StN.of2 X7 hS;replace XP:=XP.s SX;replace XO:=XO.s SX;replace XB:=XB.s SX;replace XR:=XR.s SX;replace X4:=X4.s SX;replace p24:=p24.s SX;replace p7:=p7.s SX;replace p15:=p15.s SX;replace p16:=p16.s SX;replace HB:=ie (HB.out.stn SX (by omega))
    replace X7:=SX.box;clear SX hS
    go_roundw
    case rel=>exact ⟨k+1,w7.heap.size,by go_num,rfl,_,_,_,_,_,_,_,_,_,_,_,_,_,_,_,XR,X4,X7,XP,XO,XB,p24,p15,p16,p7,by omega,k15,k16,hk1,by omega,by omega,HP1.out,HP2.out,HF.out,hT2,HB.out⟩
    case measure=>simp [intOf];omega
def In (x:Int):Prop:= -19342822337206103650074625<=x/\x<=19342822337206103650074625
theorem mkI_in{a b:Int}(ha:In a)(hb:In b):SpOk (mkI a b):=mkI_ok ha.1 hb.2
theorem SpOk.in1{a b:Int}(h:SpOk (some (a,b))):In a/\In b:=by
 obtain⟨h1,h2,h3,h4,h5⟩:=h;exact⟨⟨by omega,by omega⟩,⟨by omega,by omega⟩⟩
def negI (x:Sp):Sp:=match x with
 | none=>none
 | some (a,b)=>mkI (-b) (-a)
def addI (x y:Sp):Sp:=match x,y with
 | some (a,b),some (c,d)=>mkI (addp false a c) (addp true b d)
 | _,_=>none
def addL (l:List Sp):Sp:=match l with
 | []=>some (0,0)
 | x::l=>l.foldl addI x
def subI (x y:Sp):Sp:=addI x (negI y)
def cor (f:Bool->Int->Int->Int)(a b c d:Int):Sp:=mkI (min (min (f false a c) (f false a d)) (min (f false b c) (f false b d))) (max (max (f true a c) (f true a d)) (max (f true b c) (f true b d)))
def mulI (x y:Sp):Sp:=match x,y with
 | some (a,b),some (c,d)=>cor mulp a b c d
 | _,_=>none
theorem negI_some{a b:Int}(h:SpOk (some (a,b))):negI (some (a,b))=some (-b,-a):=by
 obtain⟨h1,h2,h3,h4,h5⟩:=h;exact mkI_some (by omega) (by omega) (by omega)
theorem negI_ok{x:Sp}(h:SpOk x):SpOk (negI x):=by
 rcases x with _ | ⟨a,b⟩
 ·exact trivial
 ·obtain⟨⟨h1,h2⟩,h3,h4⟩:=h.in1;exact mkI_in ⟨by omega,by omega⟩ ⟨by omega,by omega⟩
theorem neg_neg{x:Sp}(h:SpOk x):negI (negI x)=x:=by
 rcases x with _ | ⟨a,b⟩
 ·rfl
 ·have k:=negI_ok h;rw[negI_some h]at k|-;rw[negI_some k,Int.neg_neg,Int.neg_neg]
theorem add_none (x:Sp):addI x none=none:=by cases x <;> rfl
theorem add_comm (x y:Sp):addI x y=addI y x:=by
 rcases x with _ | ⟨a,b⟩ <;> rcases y with _ | ⟨c,d⟩ <;> first | rfl | skip
 show mkI _ _=mkI _ _
 rw[addp_comm (x:=a),addp_comm (x:=b)]
theorem add_ok{x y:Sp}(hx:SpOk x)(hy:SpOk y):SpOk (addI x y):=by
 rcases x with _ | ⟨a,b⟩
 ·exact trivial
 rcases y with _ | ⟨c,d⟩
 ·exact trivial
 obtain⟨⟨h1,h2⟩,h3,h4⟩:=hx.in1;obtain⟨⟨k1,k2⟩,k3,k4⟩:=hy.in1;exact mkI_in (addp_bd false h1 h2 k1 k2) (addp_bd true h3 h4 k3 k4)
theorem addp_le2{x y z t:Int}(up:Bool)(hx:In x)(hy:In y)(hz:In z)(ht:In t)(h:x<=y)(k:z<=t):addp up x z<=addp up y t:=by
 refine Int.le_trans (addp_mono up hx.1 hx.2 hy.1 hy.2 hz.1 hz.2 h) ?_;rw[addp_comm (x:=y),addp_comm (x:=y)];exact addp_mono up hz.1 hz.2 ht.1 ht.2 hy.1 hy.2 k
theorem sub_ok{x y:Sp}(hx:SpOk x)(hy:SpOk y):SpOk (subI x y):=add_ok hx (negI_ok hy)
def Mono (f:Int->Int)(a b:Int):Prop:=(∀x y,a<=x->x<=y->y<=b->f x<=f y)\/(∀x y,a<=x->x<=y->y<=b->f y<=f x)
theorem Mono.lo{f:Int->Int}{a b x:Int}(h:Mono f a b)(h1:a<=x)(h2:x<=b):min (f a) (f b)<=f x:=by
 rcases h with h | h
 ·have:=h a x (Int.le_refl _) h1 h2
  omega
 ·have:=h x b h1 h2 (Int.le_refl _)
  omega
theorem cor_ok{f:Bool->Int->Int->Int}(hf:∀up x y,In (f up x y))(a b c d:Int):SpOk (cor f a b c d):=by
 have h1:=hf false a c;have h2:=hf false a d;have h3:=hf false b c;have h4:=hf false b d;have k1:=hf true a c;have k2:=hf true a d;have k3:=hf true b c;have k4:=hf true b d
 unfold In at *
 exact mkI_in ⟨by omega,by omega⟩ ⟨by omega,by omega⟩
theorem mul_ok{x y:Sp}:SpOk (mulI x y):=by
 rcases x with _ | ⟨a,b⟩
 ·exact trivial
 rcases y with _ | ⟨c,d⟩
 ·exact trivial
 show SpOk (cor mulp a b c d)
 exact cor_ok (f:=mulp) (fun up _ _=>mulp_bd up) a b c d
theorem mul_comm (x y:Sp):mulI x y=mulI y x:=by
 rcases x with _ | ⟨a,b⟩ <;> rcases y with _ | ⟨c,d⟩ <;> first | rfl | skip
 show cor mulp a b c d=cor mulp c d a b
 unfold cor
 simp only[mulp_comm (x:=c),mulp_comm (x:=d)]
 congr 1 <;> omega
def QF (q:Bool->Int->Int->Int):Prop:=∀up x y,Qt up x y (q up x y)
theorem qf_ex:∃q,QF q:=by
 have h:∀p:Bool × Int × Int,∃r,Qt p.1 p.2.1 p.2.2 r:=fun p=>qt_ex p.1 p.2.1 p.2.2
 exact⟨fun up x y=>Classical.choose (h (up,x,y)),fun up x y=>Classical.choose_spec (h (up,x,y))⟩
theorem QF.in{q:Bool->Int->Int->Int}(hq:QF q)(up:Bool)(x y:Int):In (q up x y):=(hq up x y).bd
theorem qt_sid{up:Bool}{x y r:Int}(h:Qt up x y r)(hy:0 < y)(hx:infp x=false)(hi:infp y=false):Sid up (vr x*2^KK) (vr y) r:=by
 by_cases h0:x=0
 ·have:r=0:=(qt_zero (by omega) (.inl h0)).1 h
  subst this;subst h0;refine sid_exact (vr_pos hy) (by decide) (by decide) ?_
  rw[show vr 0=0 from rfl,Int.zero_mul,Int.zero_mul]
 ·have:=(qt_fin (by omega) (by simp[h0,hi]) hx).1 h
  rw[df (show ¬y < 0 by omega),wsg_f,wsg_f]at this
  exact this
theorem qt_top{up:Bool}{x y r:Int}(h:Qt up x y r)(hy:0 < y)(hi:infp y=false)(hx:infp x=true):r=x:=by
 have htp:=TP_eq;have h2:=infp_true hx
 have:=(qt_inf (by omega) (fun e=>e.elim (fun e=>by omega) (fun e=>by rw[hi]at e;cases e)) hx).1 h
 rw[this,df (show ¬y < 0 by omega)]
 rcases h2 with rfl | rfl
 ·rw[df (by decide),show (false !=false)=false from rfl,wsg_f,htp]
 ·rw[dt (by decide),show (true !=false)=true from rfl,wsg_t,htp]
theorem qt_x{up:Bool}{x x2 y r r2:Int}(hx:In x)(hx2:In x2)(hy:0 < y)(hyi:y<=19342822337206103650074625)(h:x<=x2)(a:Qt up x y r)(b:Qt up x2 y r2):r<=r2:=by
 have hab:=a.bd;have hbb:=b.bd
 cases hi:infp y
 ·cases h1:infp x
  ·cases h2:infp x2
   ·refine(qt_sid a hy h1 hi).mono (vr_pos hy) (vr_pos hy) (qt_sid b hy h2 hi) ?_;exact Int.mul_le_mul_of_nonneg_right (Int.mul_le_mul_of_nonneg_right (vr_le h) (Int.le_of_lt (p2pos KK))) (vr_nn (Int.le_of_lt hy))
   ·have:=qt_top b hy hi h2
    rcases infp_true h2 with e | e
    ·omega
    ·have:=infp_false hx.1 hx.2 h1
     omega
  ·have:=qt_top a hy hi h1
   rcases infp_true h1 with e | e
   ·have e2:x2=x:=by have:=hx2.2;omega
    subst e2
    have:=qt_top b hy hi h1
    omega
   ·omega
 ·have e1:=(qt_zero (by omega) (.inr hi)).1 a;have e2:=(qt_zero (by omega) (.inr hi)).1 b
  omega
theorem qt_nn{up:Bool}{x y r:Int}(hx:In x)(h0:0<=x)(hy:0 < y)(hyi:y<=19342822337206103650074625)(h:Qt up x y r):0<=r:=
 qt_x (x:=0) ⟨by decide,by decide⟩ hx hy hyi h0 ((qt_zero (by omega) (.inl rfl)).2 rfl) h
theorem qt_y{up:Bool}{x y y2 r r2:Int}(hx:In x)(h0:0<=x)(hy:0 < y)(h:y<=y2)(hyi:y2<=19342822337206103650074625)(a:Qt up x y r)(b:Qt up x y2 r2):r2<=r:=by
 have hbb:=b.bd
 cases hi:infp y2
 ·obtain⟨_,k2⟩:=infp_false (by omega) hyi hi
  have hi1:infp y=false:=infp_fin (by omega) (by omega)
  cases h1:infp x
  ·refine(qt_sid b (by omega) h1 hi).mono (vr_pos (by omega)) (vr_pos hy) (qt_sid a hy h1 hi1) ?_;exact Int.mul_le_mul_of_nonneg_left (vr_le h) (Int.mul_nonneg (vr_nn h0) (Int.le_of_lt (p2pos KK)))
  ·have:=qt_top a hy hi1 h1
   rcases infp_true h1 with e | e
   ·omega
   ·omega
 ·have e2:=(qt_zero (by omega) (.inr hi)).1 b
  have:=qt_nn hx h0 hy (by omega) a
  omega
theorem qt_flip{up:Bool}{x y r:Int}(hy:y≠0)(h:Qt up x y r):Qt up (-x) (-y) r:=qt_negs hy h
section
variable {q:Bool->Int->Int->Int}
theorem q_far (hq:QF q)(up:Bool){n p e r:Int}(hn:0 < n)(hp:n<=p)(hr:0 < r)(he:r<=e)(p2:In p)(e2:In e):q up n e<=q up p r:=by
 have N:In n:=⟨by omega,by have:=p2.2;omega⟩
 have:=qt_x N p2 (by omega) e2.2 hp (hq up n e) (hq up p e)
 have:=qt_y p2 (by omega) hr he e2.2 (hq up p r) (hq up p e)
 omega
theorem q_side (hq:QF q)(x y:Int)(hy:y≠0):q false x y<=q true x y:=by
 have A:=hq false x y;have B:=hq true x y
 by_cases h:x=0\/infp y=true
 ·have e1:=(qt_zero hy h).1 A;have e2:=(qt_zero hy h).1 B
  omega
 ·cases hx:infp x
  ·have a:=(qt_fin hy h hx).1 A;have b:=(qt_fin hy h hx).1 B
   rcases sid_two (sg_vr_pos hy) a b with h | h <;> omega
  ·have e1:=(qt_inf hy h hx).1 A;have e2:=(qt_inf hy h hx).1 B
   omega
theorem far_pp (hq:QF q)(up:Bool){n p e r:Int}(hn:0 < n)(hp:n<=p)(hr:0 < r)(he:r<=e)(p2:In p)(e2:In e):q false n e<=q up p r:=by
 have:=q_far hq false hn hp hr he p2 e2
 have:=q_side hq p r (by omega)
 cases up <;> omega
end
def Ro (up:Bool)(x r:Int)(t:Bool):Prop:=if x < 0 then r=0/\t=false else if x=0\/infp x=true then r=x/\t=true else Rt up (vr x*2^KK) r/\t=true
theorem ro_neg{up:Bool}{x r:Int}{t:Bool}(h:x < 0):Ro up x r t↔(r=0/\t=false):=by
 unfold Ro
 rw[if_pos h]
theorem ro_it{up:Bool}{x r:Int}{t:Bool}(h:¬x < 0)(h2:x=0\/infp x=true):Ro up x r t↔(r=x/\t=true):=by
 unfold Ro
 rw[if_neg h,if_pos h2]
theorem ro_fin{up:Bool}{x r:Int}{t:Bool}(h:¬x < 0)(h2:¬(x=0\/infp x=true)):Ro up x r t↔(Rt up (vr x*2^KK) r/\t=true):=by
 unfold Ro
 rw[if_neg h,if_neg h2]
theorem Ro.uniq{up:Bool}{x r r':Int}{t t':Bool}(h:Ro up x r t)(k:Ro up x r' t'):r=r'/\t=t':=by
 by_cases c:x < 0
 ·obtain⟨a,b⟩:=(ro_neg c).1 h;obtain⟨d,e⟩:=(ro_neg c).1 k;exact⟨a.trans d.symm,b.trans e.symm⟩
 ·by_cases c2:x=0\/infp x=true
  ·obtain⟨a,b⟩:=(ro_it c c2).1 h;obtain⟨d,e⟩:=(ro_it c c2).1 k;exact⟨a.trans d.symm,b.trans e.symm⟩
  ·obtain⟨a,b⟩:=(ro_fin c c2).1 h;obtain⟨d,e⟩:=(ro_fin c c2).1 k;exact⟨a.uniq d,b.trans e.symm⟩
def absI (x:Sp):Sp:=match x with
 | none=>none
 | some (a,b)=>if 0<=a then some (a,b)else if b<=0 then negI (some (a,b))else mkI 0 (max b (-a))
def RF (r:Bool->Int->Int):Prop:=∀up x,0<=x->Ro up x (r up x) true
theorem Rt.mono9{up:Bool}{X Y r t:Int}(h:Rt up X r)(k:Rt up Y t)(hXY:X<=Y):r<=t:=by
 rcases Int.lt_or_le t r with c | c
 ·exfalso
  cases up
  ·obtain⟨h1,h2,h3,h4⟩:=rt_f.1 h;obtain⟨k1,k2,k3,k4⟩:=rt_f.1 k;have a:=k4 (by omega);have b:=vr_sq (r:=t+1) (t:=r) (by omega) (by omega)
   omega
  ·obtain⟨h1,h2,h3,h4⟩:=rt_t.1 h;obtain⟨k1,k2,k3,k4⟩:=rt_t.1 k;have a:=k3 (by omega);have b:=vr_sq (r:=t) (t:=r-1) (by omega) (by omega)
   omega
 ·exact c
theorem infp_top:infp 19342822337206103650074625=true:=by decide
section
variable {r:Bool->Int->Int}
theorem RF.zero (hr:RF r)(up:Bool):r up 0=0:=((ro_it (by decide) (.inl rfl)).1 (hr up 0 (by decide))).1
theorem RF.top (hr:RF r)(up:Bool):r up 19342822337206103650074625=19342822337206103650074625:=((ro_it (by decide) (.inr infp_top)).1 (hr up _ (by decide))).1
theorem RF.fin (hr:RF r)(up:Bool){x:Int}(h0:0 < x)(h1:x < 19342822337206103650074625):Rt up (vr x*2^KK) (r up x):=
 ((ro_fin (by omega) (by rw[infp_fin (by omega) h1];simp;omega)).1 (hr up x (by omega))).1
theorem RF.in (hr:RF r)(up:Bool){x:Int}(h0:0<=x)(h1:x<=19342822337206103650074625):0<=r up x/\r up x<=19342822337206103650074625:=by
 by_cases c:x=0
 ·subst c;rw[hr.zero]
  decide
 ·by_cases d:x=19342822337206103650074625
  ·subst d;rw[hr.top]
   decide
  ·have:=hr.fin up (x:=x) (by omega) (by omega)
   cases up
   ·have:=rt_f.1 this
    omega
   ·have:=rt_t.1 this
    omega
theorem RF.mono (hr:RF r)(up:Bool){x y:Int}(h0:0<=x)(h:x<=y)(h1:y<=19342822337206103650074625):r up x<=r up y:=by
 have X:=hr.in up h0 (by omega)
 have Y:=hr.in up (show 0<=y by omega) h1
 by_cases c:x=0
 ·subst c;rw[hr.zero]
  omega
 ·by_cases d:y=19342822337206103650074625
  ·subst d;rw[hr.top]
   omega
  ·exact(hr.fin up (by omega) (by omega)).mono9 (hr.fin up (by omega) (by omega)) (Int.mul_le_mul_of_nonneg_right (vr_le h) (Int.le_of_lt (p2pos KK)))
end
theorem abs_eq{a b:Int}(h:SpOk (some (a,b))):absI (some (a,b))=some (max 0 (max a (-b)),max b (-a))/\SpOk (some (max 0 (max a (-b)),max b (-a))):=by
 obtain⟨h1,h2,h3,h4,h5⟩:=h
 constructor
 ·show (if _ then _ else _)=_
  by_cases c:0<=a
  ·rw[if_pos c,show max 0 (max a (-b))=a by omega,show max b (-a)=b by omega]
  ·rw[if_neg c]
   by_cases d:b<=0
   ·rw[if_pos d,negI_some ⟨h1,h2,h3,h4,h5⟩,show max 0 (max a (-b))= -b by omega,show max b (-a)= -a by omega]
   ·rw[if_neg d,mkI_some (by omega) (by omega) (by omega),show max 0 (max a (-b))=0 by omega]
 ·exact⟨by omega,by omega,by omega,by omega,by omega⟩
theorem abs_ok{x:Sp}(h:SpOk x):SpOk (absI x):=by
 rcases x with _ | ⟨a,b⟩
 ·exact trivial
 ·rw[(abs_eq h).1];exact(abs_eq h).2
section
variable {r:Bool->Int->Int}
end
theorem mulp_spec{x y:Int}(x1: -19342822337206103650074625 < x)(x2:x < 19342822337206103650074625)(y1: -19342822337206103650074625 < y)(y2:y < 19342822337206103650074625):Dn (vl (ml (ep x) (ep y))) (mulp false x y)/\Up (vl (ml (ep x) (ep y))) (mulp true x y):=by
 obtain⟨nf,v⟩:=pro_spec x1 x2 y1 y2
 by_cases h:x=0\/y=0
 ·rw[mulp_zero false h,mulp_zero true h]
  have e:vl (ml (ep x) (ep y))=vr 0:=by
   have hz:vr x*vr y=0:=by rcases h with e | e <;> rw[e,show vr 0=0 from rfl] <;> simp
   rw[hz]at v
   rcases Int.mul_eq_zero.1 v with e | e
   ·rw[e];rfl
   ·have:=p2pos KK
    omega
  rw[e];exact⟨dn_self (by decide) (by decide),up_self (by decide) (by decide)⟩
 ·have hm:¬(infp x=true\/infp y=true):=by rw[infp_fin x1 x2,infp_fin y1 y2];simp
  rw[mulp_fin false h hm,mulp_fin true h hm];exact rnd_spec nf
theorem In.fin{x:Int}(h1: -19342822337206103650074625 < x)(h2:x < 19342822337206103650074625):In x:=⟨by omega,by omega⟩
def Zi (a b:Int):Sp:=some (opl a,opl b)
theorem opl_le{a b:Int}(h1: -9223372036854775808<=a)(h:a<=b)(h2:b<=9223372036854775807):opl a<=opl b:=by
 have c:=opl_cmp (a:=a) (b:=b) h1 (by omega) (by omega) h2
 rcases cmpI_tri (opl a) (opl b)with ⟨p,e⟩ | ⟨p,e⟩ | ⟨p,e⟩
 ·omega
 ·omega
 ·rw[e]at c
  rcases cmpI_tri a b with⟨s,f⟩ | ⟨s,f⟩ | ⟨s,f⟩ <;> omega
theorem opl_fin{a:Int}(h1: -9223372036854775807<=a)(h2:a<=9223372036854775807): -19342822337206103650074625 < opl a/\opl a < 19342822337206103650074625:=by
 rcases Int.lt_or_le 0 a with c | c
 ·have:=opl_pos c h2
  omega
 ·by_cases d:a=0
  ·subst d
   decide
  ·have:=opl_pos (n:= -a) (by omega) (by omega)
   rw[opl_neg]at this
   omega
theorem Zi.mk{a b:Int}(h1: -9223372036854775807<=a)(h:a<=b)(h2:b<=9223372036854775807):mkI (opl a) (opl b)=Zi a b/\SpOk (Zi a b):=by
 have A:=opl_fin h1 (show a<=9223372036854775807 by omega)
 have B:=opl_fin (show -9223372036854775807<=b by omega) h2
 have C:=opl_le (by omega) h h2;exact⟨mkI_some C A.2 B.1,⟨by omega,C,by omega,A.2,B.1⟩⟩
theorem opl_add{a b:Int}(up:Bool)(h1: -1000000000000000000<=a)(h2:a<=1000000000000000000)(h3: -1000000000000000000<=b)(h4:b<=1000000000000000000):addp up (opl a) (opl b)=opl (a+b):=by
 obtain⟨a1,a2⟩:=opl_fin (a:=a) (by omega) (by omega);obtain⟨b1,b2⟩:=opl_fin (a:=b) (by omega) (by omega);obtain⟨c1,c2⟩:=opl_fin (a:=a+b) (by omega) (by omega);rw[addp_ff up (infp_fin a1 a2) (infp_fin b1 b2)];obtain⟨nf,v⟩:=sum_spec a1 a2 b1 b2;refine rnd_exact nf up c1 c2 ?_;rw[v,opl_vr (by omega) (by omega),opl_vr (by omega) (by omega),opl_vr (by omega) (by omega),Int.add_mul]
theorem Zi.add{a b c d:Int}(h1: -100000000000000000<=a)(h:a<=b)(h2:b<=100000000000000000)(k1: -100000000000000000<=c)(k:c<=d)(k2:d<=100000000000000000):addI (Zi a b) (Zi c d)=Zi (a+c) (b+d):=by
 show mkI _ _=_
 rw[opl_add false (by omega) (by omega) (by omega) (by omega),opl_add true (by omega) (by omega) (by omega) (by omega)];exact(Zi.mk (by omega) (by omega) (by omega)).1
theorem least4 (p q r s:Int):∃m,min (min p q) (min r s)=m/\m<=p/\m<=q/\m<=r/\m<=s/\∀t,t<=p->t<=q->t<=r->t<=s->t<=m:=⟨_,rfl,by omega,by omega,by omega,by omega,fun t _ _ _ _=>by omega⟩
theorem most4 (p q r s:Int):∃m,max (max p q) (max r s)=m/\p<=m/\q<=m/\r<=m/\s<=m/\∀t,p<=t->q<=t->r<=t->s<=t->m<=t:=⟨_,rfl,by omega,by omega,by omega,by omega,fun t _ _ _ _=>by omega⟩
end Go.Proofs.YtomikokonmikgaaGreatDoor
namespace Go.Proofs.YtomikokonmikgaaGreatDoor
open Go Go.RowKit
set_option linter.unusedVariables false
def fixB (x:Int):Bool:=decide (-opl 1073741824 < x/\x < opl 1073741824)
def fixI (x:Int):Int:=if fixB x=true then vr x*SC/2^KK else 0
theorem flr_uniq{a b q:Int}(hb:0 < b)(h1:q*b<=a)(h2:a < (q+1)*b):a/b=q:=
 Int.le_antisymm (Int.lt_add_one_iff.1 (Int.ediv_lt_of_lt_mul hb h2)) (Int.le_ediv_of_mul_le hb h1)
theorem sc_pow:SC=2^192:=by decide
theorem flr_moved{N F:Int}(nf:mk N F=(N,F))(hN:N.natAbs < 2^128)(h1: -2900000<=F)(h2:F<=2900000):
  flr (mv N F 192).1 (mv N F 192).2=N*2^(F+KK).toNat*SC/2^KK:=by
 have e:mv N F 192=mk N (F+192):=by
  unfold mv
  rw[if_neg (by omega),nf]
 rw[e];obtain⟨a,b⟩:=flr_vl (mk_nf N (F+192));have v:=mk_vl hN (e:=F+192) (by omega) (by omega)
 rw[v,show (F+192+(KK:Int)).toNat=(F+KK).toNat+192 by rw[KK_eq];omega,Int.pow_add,<-Int.mul_assoc,<-sc_pow]at a b
 exact(flr_uniq (p2pos KK) a b).symm
theorem fixI_yes{x:Int}(h:fixB x=true):fixI x=vr x*SC/2^KK:=if_pos h
theorem fixI_no{x:Int}(h:fixB x=false):fixI x=0:=if_neg (by rw[h];decide)
theorem t30:opl 1073741824 < 19342822337206103650074625/\0 < opl 1073741824:=by
 have a:=opl_fin (a:=1073741824) (by decide) (by decide);have b:=opl_vr (n:=1073741824) (by decide) (by decide);refine⟨a.2,?_⟩
 rcases Int.lt_or_le 0 (opl 1073741824)with h | h
 ·exact h
 ·exfalso
  have c:=vr_le h
  rw[b,show vr 0=0 from rfl]at c
  have:=p2pos KK
  omega
theorem fix_holds{x:Int}(h:fixB x=true):fixI x*2^KK<=vr x*SC/\vr x*SC < (fixI x+1)*2^KK:=by
 rw[fixI_yes h];have hp:=p2pos KK;exact⟨Int.ediv_mul_le _ (by omega),Int.lt_ediv_add_one_mul_self _ hp⟩
theorem fix_exq{s:Bool}{M E x:Int}(q:Fq 1 s M E x):∃N F,exb 1 s M E=true/\(exq 1 s M E).1=N/\(exq 1 s M E).2=F/\mk N F=(N,F)/\vr x=N*2^(F+KK).toNat/\N.natAbs < 2^64/\ -2900000<=F/\F<=2900000/\(N < 0↔s=true):=by
 obtain⟨h1,h2,h3,h4,fx⟩:9223372036854775808<=M/\M < 18446744073709551616/\ -1048576<=E/\E<=1048576/\(-19342822337206103650074625 < x/\x < 19342822337206103650074625):=by
  rcases q.cases with⟨c,_⟩ | ⟨_,h1,h2,h3,h4,⟨_,h5⟩ | ⟨_,h5⟩⟩ | ⟨c,_⟩
  ·omega
  ·exact⟨h1,h2,h3,h4,by omega,by omega⟩
  ·exact⟨h1,h2,h3,h4,by omega,by omega⟩
  ·omega
 obtain⟨hb,hv⟩:=exq_vl q fx.1 fx.2
 have he:exq 1 s M E=mk (sgi s M) E:=if_pos hb
 have hz:sgi s M≠0/\(sgi s M).natAbs=M.natAbs/\(sgi s M < 0↔s=true):=by
  cases s
  ·rw[show sgi false M=M from if_neg (by decide)]
   exact⟨by omega,rfl,by constructor <;> intro h <;> first | omega | cases h⟩
  ·rw[show sgi true M= -M from if_pos rfl]
   exact⟨by omega,by omega,by constructor <;> intro h <;> first | omega | rfl⟩
 obtain⟨z0,z1,z2⟩:=hz;rw[he]at hv;rw[he];generalize sgi s M=z at *;obtain⟨e1,_⟩:=v2_spec z.natAbs (by omega)
 have hm:z.natAbs < 2^64:=by omega
 have v64:v2 z.natAbs < 64:=by
  rcases Nat.lt_or_ge (v2 z.natAbs) 64 with c | c
  ·exact c
  ·exfalso
   have a:2^64<=2^v2 z.natAbs:=Nat.pow_le_pow_right (by decide) c
   have b:0 < z.natAbs/2^v2 z.natAbs:=by
    rcases Nat.eq_zero_or_pos (z.natAbs/2^v2 z.natAbs)with d | d
    ·rw[d,Nat.zero_mul]at e1
     omega
    ·exact d
   have d:=Nat.mul_le_mul b (Nat.le_refl (2^v2 z.natAbs))
   omega
 obtain⟨k1,k2,k3,_,_⟩:=mk_in (z:=z) (e:=E) z0 (by omega) (by omega);have nf:=mk_nf z E;refine⟨_,_,hb,rfl,rfl,nf,hv.symm,?_,by omega,by omega,k3.trans z2⟩
 rw[k2];exact Nat.lt_of_le_of_lt (Nat.div_le_self _ _) hm
theorem fix_inf{s:Bool}{M E x:Int}(q:Fq 2 s M E x):fixB x=false/\fixI x=0/\exb 2 s M E=false:=by
 have t:=t30
 have h:fixB x=false:=by
  refine df ?_
  rcases q.cases with⟨c,_⟩ | ⟨c,_⟩ | ⟨_,_,_,⟨_,h5⟩ | ⟨_,h5⟩⟩
  ·omega
  ·omega
  ·omega
  ·omega
 exact⟨h,fixI_no h,by unfold exb;simp⟩
theorem fq_kind{K:Int}{s:Bool}{M E x:Int}(q:Fq K s M E x):(K=0/\x=0)\/K=1\/K=2:=by
 rcases q.cases with⟨a,_,_,_,b⟩ | ⟨a,_⟩ | ⟨a,_⟩
 ·exact .inl ⟨a,b⟩
 ·exact .inr (.inl a)
 ·exact .inr (.inr a)
end Go.Proofs.YtomikokonmikgaaGreatDoor
namespace Go.Proofs.YtomikokonmikgaaGreatDoor
open Go.RowKit
set_option linter.unusedVariables false
set_option linter.unusedSimpArgs false
set_option maxRecDepth 100000
def WB (w:World)(K:Nat)(z:Int)(t:Bool)(e:Ending)(w':World):Prop:=∃s A n c,e= .returned (.tuple #[.agg #[.bool s,.slice A n c],.bool t])/\Wn w' s A n c z/\n<=K/\Below w.heap.size w w'
theorem Nl.lit2{W:World}{g:Nat}{D1 D2 M1 M2 E1 E2 r1 r2:Int}{s1 s2:Bool}(hg:W.heap.size=g)(h1:LQ M1)(h2:LQ M2)(k1:rk D1 s1 M1 E1=r1)(k2:rk D2 s2 M2 E2=r2):
  Nl (W.alloc (.cells #[.int .i64 D1,.bool s1,.int .u64 M1,.int .i64 E1,.int .i64 D2,.bool s2,.int .u64 M2,.int .i64 E2] 24)) (some ⟨g,0,none⟩) 2 2 [r1,r2]:=by
 subst hg;have hh:=heap_alloc_new W (.cells #[.int .i64 D1,.bool s1,.int .u64 M1,.int .i64 E1,.int .i64 D2,.bool s2,.int .u64 M2,.int .i64 E2] 24)
 refine⟨rfl,Nat.le_refl _,by decide,fun _=>⟨_,0,rfl,fun k hk=>?_⟩⟩
 rcases (by omega:k=0\/k=1)with rfl | rfl
 ·exact⟨D1,s1,M1,E1,by rw[cell_of_row _ _ _ _ _ _ hh];rfl,by rw[cell_of_row _ _ _ _ _ _ hh];rfl,by rw[cell_of_row _ _ _ _ _ _ hh];rfl,by rw[cell_of_row _ _ _ _ _ _ hh];rfl,h1,k1⟩
 ·exact⟨D2,s2,M2,E2,by rw[cell_of_row _ _ _ _ _ _ hh];rfl,by rw[cell_of_row _ _ _ _ _ _ hh];rfl,by rw[cell_of_row _ _ _ _ _ _ hh];rfl,by rw[cell_of_row _ _ _ _ _ _ hh];rfl,h2,k2⟩
theorem mxp_two{a b:Int}(ha: -19342822337206103650074625<=a):mxp [a,b]=max a b:=by
 have:=TP_eq
 show max (max (-TP) a) b=_
 omega
end Go.Proofs.YtomikokonmikgaaGreatDoor
namespace Go.Proofs.YtomikokonmikgaaGreatDoor
open Go Go.RowKit
set_option linter.unusedVariables false
theorem fixB_max{x m c:Int}(hm:max x (-x)=m)(h:cmpI m (opl 1073741824)=c):decide (0<=c)=!(fixB x):=by
 subst hm;have t:=t30
 unfold fixB
 rw[<-h]
 by_cases g: -opl 1073741824 < x/\x < opl 1073741824
 ·rw[dt g,cmpI_lt (show max x (-x) < opl 1073741824 by omega)]
  rfl
 ·rw[df g]
  rcases cmpI_tri (max x (-x)) (opl 1073741824)with ⟨a,b⟩ | ⟨a,b⟩ | ⟨a,b⟩
  ·omega
  ·rw[b];rfl
  ·rw[b];rfl
theorem mxp_opp{x:Int}(ha: -19342822337206103650074625<=x):mxp [x,-x]=max x (-x):=mxp_two ha
theorem fix_raw{D M E x:Int}{s:Bool}(hM:LQ M)(hx:rk D s M E=x)(hb:fixB x=true):
  ∃N F,(exq D s M E).1=N/\(exq D s M E).2=F/\mk N F=(N,F)/\vr x=N*2^(F+KK).toNat/\N.natAbs < 2^64/\ -2900000<=F/\F<=2900000:=by
 have zero:∀N:Int,N=0->vr 0=N*2^((0:Int)+KK).toNat:=fun N e=>by rw[e,Int.zero_mul];rfl
 by_cases h:MayQ D s M E
 ·have q:=rk_fq hM h;rw[hx]at q
  rcases fq_kind q with⟨rfl,rfl⟩ | rfl | rfl
  ·obtain⟨_,rfl,rfl,rfl⟩:=q.uniq Fq.nought;exact⟨0,0,by decide,by decide,mk_zero 0,zero 0 rfl,by decide,by decide,by decide⟩
  ·obtain⟨N,F,_,a,b,nf,hv,n64,g1,g2,_⟩:=fix_exq q;exact⟨N,F,a,b,nf,hv,n64,g1,g2⟩
  ·rw[(fix_inf q).1]at hb
   cases hb
 ·have e:exq D s M E=(0,0):=by
   unfold exq exb
   rw[df h]
   rfl
  rw[rk_not h]at hx;subst hx;exact⟨0,0,by rw[e],by rw[e],mk_zero 0,zero 0 rfl,by decide,by decide,by decide⟩
theorem fix_code{N F P Q x:Int}(nf:mk N F=(N,F))(hv:vr x=N*2^(F+KK).toNat)(h64:N.natAbs < 2^64)(h1: -2900000<=F)(h2:F<=2900000)(hb:fixB x=true)
  (hP:(mvs (mk N F) 192).1=P) (hQ:(mvs (mk N F) 192).2=Q):flr (mk P Q).1 (mk P Q).2=fixI x:=by
 have hfl:=flr_moved nf (Nat.lt_trans h64 (by decide)) h1 h2
 have e:mv N F 192=mk N (F+192):=by
  unfold mv
  rw[if_neg (by omega),nf]
 rw[nf]at hP hQ
 have e2:mk P Q=(P,Q):=by
  have:=mk_nf N (F+192)
  rw[<-hP,<-hQ];exact this
 rw[e2,fixI_yes hb,hv,<-hfl,e,<-hP,<-hQ]
 rfl
end Go.Proofs.YtomikokonmikgaaGreatDoor
namespace Go.Proofs.YtomikokonmikgaaGreatDoor
open Go.RowKit
set_option linter.unusedVariables false
theorem stk_iff{q d d':Nat}(h:d=0↔d'=0):stk q d=stk q d':=by
 unfold stk
 by_cases c:d=0
 ·rw[if_pos c,if_pos (h.1 c)]
 ·rw[if_neg c,if_neg (fun e=>c (h.2 e))]
theorem stk_two (q d:Nat):stk q d<=2*q+1:=by
 unfold stk
 split <;> omega
theorem le_of_blen{a k:Nat}(h0:0 < a)(h:k < blen a):2^k<=a:=by
 have h1:=blen_le (n:=a) (by omega);exact Nat.le_trans (Nat.pow_le_pow_right (by decide) (by omega)) h1
theorem part_up{α β k:Nat}{e:Int}(hα:0 < α)(hβ:0 < β)(hk:(blen β:Int)-(blen α:Int)+64=(k:Int))(ha:blen α<=112000)(hb:blen β<=112000)(e1: -2200000<=e)(e2:e<=2200000)(σ up:Bool):
  Sid up (sgi σ ((α:Int)*2^(e+KK).toNat)) (β:Int) (rnd up (mk (sgi σ ((stk (α*2^k/β) (α*2^k%β):Nat):Int)) (e-k-1)).1 (mk (sgi σ ((stk (α*2^k/β) (α*2^k%β):Nat):Int)) (e-k-1)).2):=by
 obtain⟨κ,hκ⟩:∃κ:Nat,κ=500000:=⟨_,rfl⟩
 have la:0 < blen α:=by
  rcases Nat.eq_zero_or_pos (blen α)with c | c
  ·have:=blen_lt α
   rw[c]at this
   omega
  ·exact c
 have hq:9223372036854775808<=α*2^k/β:=by
  rw[Nat.le_div_iff_mul_le hβ];have l1:=blen_lt β
  have l2:2^63*β<=2^63*2^blen β:=Nat.mul_le_mul_left _ (Nat.le_of_lt l1)
  have l3:=le_of_blen (k:=blen α-1) hα (by omega)
  have l4:2^(blen α-1)*2^k<=α*2^k:=Nat.mul_le_mul_right _ l3
  rw[<-Nat.pow_add]at l2 l4
  rw[show blen α-1+k=63+blen β by omega]at l4
  omega
 have hs:stk (α*2^k/β) (α*2^k%β) < 2^κ:=by
  have q1:α*2^k/β<=α*2^k:=Nat.div_le_self _ _
  have q2:α*2^k < 2^blen α*2^k:=Nat.mul_lt_mul_of_pos_right (blen_lt α) (Nat.pow_pos (by decide))
  rw[<-Nat.pow_add]at q2;have q3:=stk_two (α*2^k/β) (α*2^k%β)
  have q4:2^(blen α+k+1)<=2^κ:=Nat.pow_le_pow_right (by decide) (by omega)
  rw[Nat.pow_succ]at q4
  omega
 rw[rnd_sgi]
 exact sid_sgi (quo_side (up !=σ) hβ (fun _=>hq) hκ hs (by omega) (by omega))
theorem left_iff{α β k:Nat}:α%(β*2^k)=0↔α/2^k*2^k=α/\α/2^k%β=0:=by
 have hp:0 < 2^k:=Nat.pow_pos (by decide)
 constructor
 ·intro h
  obtain⟨t,ht⟩:=Nat.dvd_of_mod_eq_zero h
  have e:α/2^k=β*t:=by
   rw[ht,Nat.mul_right_comm,Nat.mul_div_cancel _ hp]
  rw[e];refine⟨?_,Nat.mul_mod_right _ _⟩;rw[ht,Nat.mul_right_comm]
 ·rintro ⟨a,b⟩;obtain⟨t,ht⟩:=Nat.dvd_of_mod_eq_zero b;rw[<-a,ht,Nat.mul_right_comm];exact Nat.mul_mod_right _ _
theorem part_dn{α β k d:Nat}{e:Int}(hα:0 < α)(hβ:0 < β)(hk:(blen β:Int)-(blen α:Int)+64= -(k:Int))(ha:blen α<=112000)(e1: -2200000<=e)(e2:e<=2200000)(hd:d=0↔(α/2^k*2^k=α/\α/2^k%β=0))(σ up:Bool):
  Sid up (sgi σ ((α:Int)*2^(e+KK).toNat)) (β:Int) (rnd up (mk (sgi σ ((stk (α/2^k/β) d:Nat):Int)) (e+k-1)).1 (mk (sgi σ ((stk (α/2^k/β) d:Nat):Int)) (e+k-1)).2):=by
 have hKK:=KK_eq;obtain⟨κ,hκ⟩:∃κ:Nat,κ=500000:=⟨_,rfl⟩
 have hp:0 < 2^k:=Nat.pow_pos (by decide)
 have hD:0 < β*2^k:=Nat.mul_pos hβ hp
 have es:stk (α/2^k/β) d=stk (α/ (β*2^k)) (α%(β*2^k)):=by
  rw[Nat.div_div_eq_div_mul,Nat.mul_comm (2^k) β];exact stk_iff (hd.trans left_iff.symm)
 rw[es]
 have hq:9223372036854775808<=α/ (β*2^k):=by
  rw[Nat.le_div_iff_mul_le hD];have l1:=blen_lt β
  have l2:2^63*(β*2^k)<=2^63*(2^blen β*2^k):=Nat.mul_le_mul_left _ (Nat.mul_le_mul_right _ (Nat.le_of_lt l1))
  have l3:=le_of_blen (k:=blen α-1) hα (by omega);rw[<-Nat.pow_add,<-Nat.pow_add]at l2
  rw[show blen α-1=63+(blen β+k) by omega]at l3
  omega
 have hs:stk (α/ (β*2^k)) (α%(β*2^k)) < 2^κ:=by
  have q1:α/ (β*2^k)<=α:=Nat.div_le_self _ _
  have q2:=blen_lt α;have q3:=stk_two (α/ (β*2^k)) (α%(β*2^k))
  have q4:2^(blen α+1)<=2^κ:=Nat.pow_le_pow_right (by decide) (by omega)
  rw[Nat.pow_succ]at q4
  omega
 have h:=quo_side (α:=α) (β:=β*2^k) (e:=e+k) (n:=0) (up !=σ) hD (fun _=>by rw[Nat.pow_zero,Nat.mul_one];exact hq) hκ (by rw[Nat.pow_zero,Nat.mul_one];exact hs) (by omega) (by omega)
 rw[Nat.pow_zero,Nat.mul_one,show e+(k:Int)-((0:Nat):Int)-1=e+k-1 by omega]at h
 rw[rnd_sgi];refine sid_sgi (h.cross (by omega) (by omega) ?_)
 have e3:(e+(k:Int)+(KK:Int)).toNat=(e+(KK:Int)).toNat+k:=by omega
 rw[e3,Int.pow_add]
 push_cast
 generalize (2:Int)^(e+(KK:Int)).toNat=U;generalize (2:Int)^k=V;rw[Int.mul_assoc,Int.mul_assoc,Int.mul_assoc,Int.mul_comm V (β:Int)]
