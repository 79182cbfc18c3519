/-
 Contracts that the proof rests on.
-/
import Derived.Laws.Bits64b
import Derived.Laws.Externs
import Derived.Lib.Mul64
import Derived.Lib.TrailingZeros
import Derived.Test.YtomikokonmikgaaGreatDoorYPaq
namespace Go.Proofs.YtomikokonmikgaaGreatDoor
open Go.RowKit
set_option linter.unusedVariables false
set_option maxRecDepth 100000
def tz8:List Int:=[0,1,56,2,57,49,28,3,61,58,42,50,38,29,17,4,62,47,59,36,45,43,51,22,53,39,33,30,24,18,12,5,63,55,48,27,60,41,37,16,46,35,44,21,52,32,23,11,54,26,40,15,34,20,31,10,25,14,19,9,13,8,7,6]
def Tb (w:World):Prop:=∀i,i < 64->w.cell? ⟨0,i,none⟩=some (.int .u8 (tz8.getD i 0))
section
variable {w w':World}
theorem Tb.lt (h:Tb w):0 < w.heap.size:=World.block_lt_of_cell? w _ (h 0 (by decide))
theorem Tb.keep (h:Tb w)(hk:w'.heap[0]?=w.heap[0]?):Tb w':=fun i hi=>by
 rw[<-h i hi];simp only[World.cell?,hk]
theorem Tb.below (h:Tb w)(hb:Below w.heap.size w w'):Tb w':=h.keep (hb.block _ h.lt)
abbrev Tb.b:= @Tb.below
theorem Tb.ne{g:Nat}{cs:Array Value}{T:TypeId}(h:Tb w)(X:Bo w g cs T)(hn:cs.all no8=true):0≠g:=fun e=>by
 have h0:=h 0 (by decide);subst e;rw[X.cell]at h0;rw[Array.all_eq_true]at hn;obtain⟨hlt,he⟩:=Array.getElem?_eq_some_iff.1 h0
 have:=hn 0 hlt
 rw[he]at this
 cases this
theorem Tb.stn{g:Nat}{old new:Array Value}{T:TypeId}(h:Tb w)(S:StN w w' g old new T)(hn:old.all no8=true):Tb w':=h.keep (S.2.2.1 _ (h.ne S.1 hn))
theorem Tb.off{g:Nat}{old new:Array Value}{R:TypeId}(h:Tb w)(X:Bo w g old R)(hn:old.all no8=true)(O:Jo.Off g new R w w'):Tb w':=h.keep (O.block _ h.lt (h.ne X hn))
end
theorem tz8_at:∀k:Nat,k < 64->(2^k*285870213051353865%18446744073709551616/288230376151711744) < 64/\tz8.getD (2^k*285870213051353865%18446744073709551616/288230376151711744) 0=(k:Int):=by decide +kernel
theorem tz64_key (x a:Nat)(hx:x < 18446744073709551616)(hx0:x≠0)(hlow:x &&& (18446744073709551616-x)=a):
  IntKind.u64.wrap (bits BinOp.and IntKind.u64 (x:Int) (IntKind.u64.wrap (-(x:Int)))*285870213051353865) /288230376151711744=((a*285870213051353865%18446744073709551616/288230376151711744:Nat):Int):=by
 have e1:IntKind.u64.wrap (-(x:Int))=((18446744073709551616-x:Nat):Int):=by rw[IntKind.wrap_u64];omega
 rw[e1,bits_and_u64_nat x _ hx (by omega),hlow,IntKind.wrap_u64]
 omega
set_option maxHeartbeats 1000000 in
theorem tz64_core (x k idx:Nat)(w:World)(hx0:((x:Int)==0)=false)
  (key:IntKind.u64.wrap (bits BinOp.and IntKind.u64 (x:Int) (IntKind.u64.wrap (-(x:Int)))*285870213051353865) /288230376151711744=(idx:Int))
  (hi:idx < 64) (hk:k < 64) (hcell:w.cell? ⟨0,idx,none⟩=some (.int .u8 (k:Int))):
  Calls Tryz.prog 254 #[.int .u64 (x:Int)] w fun e w'=>e= .returned (.int .i64 (k:Int))/\w'=w:=by
 go_enter Tryz.func254,Tryz.ntmps254
 go_wp2_with (simp only[key])
 go_ret
 exact⟨rfl,rfl⟩
theorem aTz{w:World}{x:Nat}{X r:Int}(hT:Tb w)(h0:x≠0)(hx:x < 18446744073709551616)(hX:(x:Int)=X)(hr:((Lib.ctz 64 x:Nat):Int)=r):Calls Tryz.prog 254 #[.int .u64 X] w (PI w r):=by
 subst hX;subst hr;obtain⟨hlow,hk⟩:=Lib.lowest_bit 64 x h0 hx;obtain⟨hi,htab⟩:=tz8_at _ hk;have hcell:=hT _ hi;rw[htab]at hcell;refine(tz64_core x _ _ w (by simp;omega) (tz64_key x _ hx h0 hlow) hi hk hcell).mono ?_;rintro e w' ⟨rfl,rfl⟩;exact⟨rfl,Below.refl _ _⟩
theorem ctz_dvd{x n:Nat}(h0:x≠0)(hx:x < 18446744073709551616):n<=Lib.ctz 64 x↔x%2^n=0:=by
 obtain⟨m,hm,hk⟩:=Lib.ctzFrom_spec 64 x (by omega) hx
 have e:Lib.ctz 64 x=Lib.ctzFrom 64 x:=by simp[Lib.ctz,h0]
 rw[e]
 revert hm hk
 generalize Lib.ctzFrom 64 x=k
 intro hm hk
 constructor
 ·intro h
  rw[hm,show 2^k=2^n*2^(k-n) by rw[<-Nat.pow_add];congr 1;omega,Nat.mul_assoc]
  exact Nat.mul_mod_right _ _
 ·intro h
  rcases Nat.lt_or_ge k n with c | c
  ·exfalso
   obtain⟨q,hq⟩:=Nat.dvd_of_mod_eq_zero h
   rw[hm,show 2^n=2^k*(2*2^(n-k-1)) by rw[<-Nat.pow_succ',<-Nat.pow_add];congr 1;omega,Nat.mul_assoc]at hq
   have:=Nat.eq_of_mul_eq_mul_left (Nat.pow_pos (by decide)) hq
   rw[Nat.mul_assoc]at this
   omega
  ·exact c
def subEntry:Array Value->Sem Value:=fun args=>do
 let (x,y,b) <-Extern.MathBitsCarry.three "Sub64" args
 pure (Extern.MathBitsCarry.pair ((x+Extern.MathBitsCarry.m64-y-b)%Extern.MathBitsCarry.m64) (if x < y+b then 1 else 0))
theorem run_subEntry{P:Program}(x y b:Nat)(hb:b<=1)(w:World):
  (subEntry #[.int .u64 x,.int .u64 y,.int .u64 b]).run P w=
   .ok (.tuple #[.int .u64 (((x+18446744073709551616-y-b)%18446744073709551616:Nat):Int),.int .u64 ((if x < y+b then 1 else 0:Nat):Int)]) w:=by
 have:b=0\/b=1:=by omega
 rcases this with rfl | rfl <;> rfl
theorem aAdd64{X Y C S D:Int}(w:World)(hX:0<=X)(hY:0<=Y)(hC:0<=C)(hC1:C<=1)(hS:(X+Y+C)%18446744073709551616=S)(hD:(X+Y+C) /18446744073709551616=D):
  (callFunc 230 #[.int .u64 X,.int .u64 Y,.int .u64 C]).run Tryz.prog w= .ok (.value (.tuple #[.int .u64 S,.int .u64 D])) w:=by
 rw[run_callFunc_extern Tryz.func230 (by kernel_rfl) (by kernel_rfl) (by kernel_rfl) (e:=add64Entry) (by kernel_rfl),run_add64 X Y C hX hY hC hC1,hS,hD]
 rfl
theorem aSub64{X Y C S D:Int}(w:World)(hX:0<=X)(hX1:LQ X)(hY:0<=Y)(hY1:LQ Y)(hC:0<=C)(hC1:C<=1)(hS:(X-Y-C)%18446744073709551616=S)(hD:(if X < Y+C then 1 else 0)=D):
  (callFunc 231 #[.int .u64 X,.int .u64 Y,.int .u64 C]).run Tryz.prog w= .ok (.value (.tuple #[.int .u64 S,.int .u64 D])) w:=by
 obtain⟨x,rfl⟩:=Int.eq_ofNat_of_zero_le hX;obtain⟨y,rfl⟩:=Int.eq_ofNat_of_zero_le hY;obtain⟨c,rfl⟩:=Int.eq_ofNat_of_zero_le hC
 have e1:(((x+18446744073709551616-y-c)%18446744073709551616:Nat):Int)=S:=by omega
 have e2:((if x < y+c then 1 else 0:Nat):Int)=D:=by
  rw[<-hD]
  by_cases q:x < y+c
  ·rw[if_pos q,if_pos (by omega)];rfl
  ·rw[if_neg q,if_neg (by omega)];rfl
 rw[run_callFunc_extern Tryz.func231 (by kernel_rfl) (by kernel_rfl) (by kernel_rfl) (e:=subEntry) (by kernel_rfl),run_subEntry x y c (by omega),e1,e2]
 rfl
namespace M6
end M6
end Go.Proofs.YtomikokonmikgaaGreatDoor
namespace Go.Proofs.YtomikokonmikgaaGreatDoor
set_option maxHeartbeats 8000000
open Go.RowKit
set_option linter.unusedVariables false
theorem Tb.s{w w':World}{g:Nat}{old new:Array Value}{T:TypeId}(h:Tb w)(S:StN w w' g old new T)(hn:old.all no8=true:=by simp[no8]):Tb w':=h.stn S hn
set_option linter.unusedSimpArgs false
set_option maxRecDepth 100000
def PRa (w:World)(s:Bool)(S:Nat)(F:Int)(e:Ending)(w':World):Prop:=∃T K X,e= .returned (.agg #[.bool s,.int .u64 T,.int .u64 K,.int .i64 X])/\Ra S F T K X/\Below w.heap.size w w'
theorem or_high{h l n b:Nat}(hn:n+b=64)(hh:h*2^n < 18446744073709551616)(hl:l < 18446744073709551616):bits BinOp.or IntKind.u64 ((h*2^n:Nat):Int) ((l/2^b:Nat):Int)=((h*2^n+l/2^b:Nat):Int):=by
 have hq:l/2^b < 2^n:=by
  rw[Nat.div_lt_iff_lt_mul (Nat.pow_pos (by decide)),<-Nat.pow_add,hn];exact hl
 have hq2:l/2^b < 18446744073709551616:=Nat.lt_of_le_of_lt (Nat.div_le_self _ _) hl
 rw[u64_or_nat _ _ hh hq2,<-Nat.shiftLeft_eq,Nat.shiftLeft_add_eq_or_of_lt hq]
theorem tonat_sub{a:Int}{b:Nat}(h:64-(b:Int)=a)(hb:b<=64):a.toNat=64-b/\(64-a).toNat=b:=by omega
theorem raised_low{w:World}{s:Bool}{l:Nat}{L e:Int}(hl:l < 18446744073709551616)(hL:(l:Int)=L)(e1: -4000000<=e)(e2:e<=4000000):Calls Tryz.prog 255 #[.agg #[.bool s,.int .u64 0,.int .u64 L,.int .i64 e]] w (PRa w s l (e-64)):=by
 have HRA:=ie (ra_low (e:=e) hl);have hb:=blen_mono_le (n:=l) (k:=64) hl;obtain⟨a,ha⟩:∃a,64-(blen l:Int)=a:=⟨_,rfl⟩;obtain⟨T,hT⟩:∃T,((l*2^(64-blen l):Nat):Int)=T:=⟨_,rfl⟩
 have HS:Hid (L*2^a.toNat=T):=ie (by
  rw[<-hT,<-hL,(tonat_sub ha hb).1]
  push_cast
  rfl)
 rw[hT,ha]at HRA;have t0:=HRA.out.1;have t1:=HRA.out.2.1
 have a0:0<=a:=by omega
 have a1:a<=64:=by omega
 have HA:=ie ha;have HL:=ie hL
 have HW:=ie (show IntKind.u64.wrap T=T from IntWalk.u64_in _ (by omega))
 have HO:Hid (bits BinOp.or IntKind.u64 T 0=T):=ie (by
  obtain⟨k,rfl⟩:=Int.eq_ofNat_of_zero_le t0
  have:=u64_or_nat k 0 (by omega) (by decide)
  rw[Nat.or_zero]at this;exact this)
 obtain⟨f,hf⟩:∃f,e-64=f:=⟨_,rfl⟩;obtain⟨X,hX⟩:∃X,f-a=X:=⟨_,rfl⟩;rw[hf,hX]at HRA;rw[hf]
 have HF:=ie (show IntKind.i64.wrap (e-64)=f by rw[hf];exact IntWalk.i64_in _ (by omega))
 have HX:=ie (show IntKind.i64.wrap (f-a)=X by rw[hX];exact IntWalk.i64_in _ (by omega))
 have HSB:=ie (show IntKind.i64.wrap (64-a)=64-a from IntWalk.i64_in _ (by omega))
 clear ha hL hT hf hX hb
 go_enter Tryz.func255,Tryz.ntmps255
 go_upto_region 1 with (fail)
 generalize hW1:(w.alloc _).alloc _=w1 at *;obtain⟨X1,XR,HB⟩:=Bo.en2 hW1;clear hW1;have xX1:=X1.cell;have zX10:=X1.frozen
 go_upto_region 3 with (fail)
 clear xX1 zX10
 have SX:StN w1 (World.setCell w1 ⟨w.heap.size,1,none⟩ (.int .u64 L)) _ _ #[.bool s,.int .u64 L,.int .u64 L,.int .i64 e] _:=StN.at4 X1 1 (.int .u64 L)
 replace XR:=XR.s SX;replace HB:=Hqs HB SX (by omega);replace X1:=SX.box;clear SX;generalize World.setCell w1 ⟨w.heap.size,1,none⟩ (.int .u64 L)=w2 at *
 have SX:StN w2 (World.setCell w2 ⟨w.heap.size,2,none⟩ (.int .u64 0)) _ _ #[.bool s,.int .u64 L,.int .u64 0,.int .i64 e] _:=StN.at4 X1 2 (.int .u64 0)
 replace XR:=XR.s SX;replace HB:=Hqs HB SX (by omega);replace X1:=SX.box;clear SX;generalize World.setCell w2 ⟨w.heap.size,2,none⟩ (.int .u64 0)=w3 at *;have xX1:=X1.cell;have zX10:=X1.frozen;have hf:=HF.out
 go_upto_region 4 with (fail)
 clear hf;clear xX1 zX10
 have SX:StN w3 (World.setCell w3 ⟨w.heap.size,3,none⟩ (.int .i64 f)) _ _ #[.bool s,.int .u64 L,.int .u64 0,.int .i64 f] _:=StN.at4 X1 3 (.int .i64 f)
 replace XR:=XR.s SX;replace HB:=Hqs HB SX (by omega);replace X1:=SX.box;clear SX;generalize World.setCell w3 ⟨w.heap.size,3,none⟩ (.int .i64 f)=w4 at *;have xX1:=X1.cell
 go_wp2_with fail
 refine(lead64_any _ hl HL.out HA.out).mono ?_;rintro ee w5 ⟨rfl,B⟩;clear xX1;replace X1:=X1.b B;replace XR:=XR.b B;replace HB:=Hqb HB B;clear B
 go_upto_region 5 with (fail)
 refine jk [0,1,2,3,4,5,6,7,8,9,10] [some 18,some 19,some 20,some 21,some 22,some 23,some 24,some 25,some 26,some 27,some 28,none] [[],[0],[],[1,2],[],[4],[],[6],[5,7],[3,8],[],[]] 12 1 [Jo.qp w.heap.size 1,Jo.Fact.eq (.int .u64 L),Jo.qi a,Jo.Fact.eq (.int .u64 T),Jo.qp w.heap.size 2,Jo.Fact.eq (.int .u64 0),Jo.qi a,Jo.Fact.eq (.int .i64 (64-a)),Jo.Fact.eq (.int .u64 0),Jo.Fact.eq (.int .u64 T),Jo.qp w.heap.size 1,Jo.Fact.any] ?_ ?_
 ·refine jm ?_ ?_;rotate_left
  refine jm ?_ ?_
  ·rintro wj hJ _ rfl K hK;simp only[Jo.z]at hK|-;have xX11:=(X1.b hJ).a 1 (.int .u64 L) rfl;go_simp;exact hK.out _ _ rfl (br _ _)
  refine jm ?_ ?_;rotate_left
  refine jm ?_ ?_
  ·rintro wj hJ _ rfl _ rfl K hK;simp only[Jo.z]at hK|-;have hs:=HS.out;have hw:=HW.out;go_simp;exact hK.out _ _ rfl (br _ _)
  refine jm ?_ ?_;rotate_left
  refine jm ?_ ?_
  ·rintro wj hJ _ rfl K hK;simp only[Jo.z]at hK|-;have xX12:=(X1.b hJ).a 2 (.int .u64 0) rfl;go_simp;exact hK.out _ _ rfl (br _ _)
  refine jm ?_ ?_;rotate_left
  refine jm ?_ ?_
  ·rintro wj hJ _ rfl K hK;simp only[Jo.z]at hK|-;have hsb:=HSB.out;go_simp;exact hK.out _ _ rfl (br _ _)
  refine jm ?_ ?_;rotate_left
  refine jm ?_ ?_
  ·rintro wj hJ _ rfl _ rfl K hK;simp only[Jo.z]at hK|-;have ho:=HO.out;go_simp;exact hK.out _ _ rfl (br _ _)
  refine jm ?_ ?_;rotate_left
  exact jo
  all_goals (rintro wj hJ;(repeat rintro _ rfl);intro K hK;simp only[Jo.z]at hK|-;go_simp;exact hK.out _ _ rfl (br _ _))
 rintro w6 hJ _ _ _ rfl _ rfl _ rfl _ _ _ rfl _ rfl _ rfl _ rfl _ rfl _ rfl -;simp only[Jo.z];replace X1:=X1.b hJ;replace XR:=XR.b hJ;replace HB:=Hqb HB hJ;have xX1:=X1.cell;have zX10:=X1.frozen
 refine jn 11 fun K hK=>?_
 go_simp;refine hK.out _ _ ?_;clear hK K xX1 zX10
 have SX:StN w6 (World.setCell w6 ⟨w.heap.size,1,none⟩ (.int .u64 T)) _ _ #[.bool s,.int .u64 T,.int .u64 0,.int .i64 f] _:=StN.at4 X1 1 (.int .u64 T)
 replace XR:=XR.s SX;replace HB:=Hqs HB SX (by omega);replace X1:=SX.box;clear SX;generalize World.setCell w6 ⟨w.heap.size,1,none⟩ (.int .u64 T)=w7 at *;refine jd ?_;have xX1:=X1.cell;have zX10:=X1.frozen
 go_upto_region 7 with (fail)
 clear xX1 zX10
 have SX:StN w7 (World.setCell w7 ⟨w.heap.size,2,none⟩ (.int .u64 0)) _ _ #[.bool s,.int .u64 T,.int .u64 0,.int .i64 f] _:=StN.at4 X1 2 (.int .u64 0)
 replace XR:=XR.s SX;replace HB:=Hqs HB SX (by omega);replace X1:=SX.box;clear SX;generalize World.setCell w7 ⟨w.heap.size,2,none⟩ (.int .u64 0)=w8 at *;have xX1:=X1.cell;have zX10:=X1.frozen;have hx:=HX.out
 go_upto_region 8 with (fail)
 clear hx;clear xX1 zX10
 have SX:StN w8 (World.setCell w8 ⟨w.heap.size,3,none⟩ (.int .i64 X)) _ _ #[.bool s,.int .u64 T,.int .u64 0,.int .i64 X] _:=StN.at4 X1 3 (.int .i64 X)
 replace XR:=XR.s SX;replace HB:=Hqs HB SX (by omega);replace X1:=SX.box;clear SX;generalize World.setCell w8 ⟨w.heap.size,3,none⟩ (.int .i64 X)=w9 at *;have xXR:=XR.cell;have zXR0:=XR.frozen;have xX1:=X1.cell;go_wp2;clear xXR zXR0 xX1;have SX:=StN.mk4 XR (.bool s) (.int .u64 T) (.int .u64 0) (.int .i64 X)
 exact bq (by simp[results,Tryz.results255,go_sem,SX.box.cell]) rfl ⟨_,_,_,rfl,HRA.out,(SX.below HB.out (by omega))⟩
theorem raised_high{w:World}{s:Bool}{h l:Nat}{H L e:Int}(h0:h≠0)(hh:h < 18446744073709551616)(hl:l < 18446744073709551616)(hH:(h:Int)=H)(hL:(l:Int)=L)(e1: -4000000<=e)(e2:e<=4000000):Calls Tryz.prog 255 #[.agg #[.bool s,.int .u64 H,.int .u64 L,.int .i64 e]] w (PRa w s (h*18446744073709551616+l) (e-64)):=by
 have HRA:=ie (ra_high (e:=e) h0 hh hl);have hb:=blen_mono_le (n:=h) (k:=64) hh;obtain⟨a,ha⟩:∃a,64-(blen h:Int)=a:=⟨_,rfl⟩;obtain⟨u1,u2⟩:=tonat_sub ha hb;obtain⟨R,hR⟩:∃R,((h*2^(64-blen h)+l/2^blen h:Nat):Int)=R:=⟨_,rfl⟩;obtain⟨T,hT⟩:∃T,((h*2^(64-blen h):Nat):Int)=T:=⟨_,rfl⟩;obtain⟨Q,hQ⟩:∃Q,((l/2^blen h:Nat):Int)=Q:=⟨_,rfl⟩
 obtain⟨P,hP⟩:∃P,((l*2^(64-blen h):Nat):Int)=P:=⟨_,rfl⟩;obtain⟨C,hC⟩:∃C,((l*2^(64-blen h)%18446744073709551616:Nat):Int)=C:=⟨_,rfl⟩
 have hT64:h*2^(64-blen h) < 18446744073709551616:=by
  have q1:=tp_small hb;have q2:=tp_lt h;rw[q1]at q2
  omega
 have HS:Hid (H*2^a.toNat=T):=ie (by
  rw[<-hT,<-hH,u1]
  push_cast
  rfl)
 have HP:Hid (L*2^a.toNat=P):=ie (by
  rw[<-hP,<-hL,u1]
  push_cast
  rfl)
 have HPC:Hid (IntKind.u64.wrap P=C):=ie (by
  rw[<-hP,<-hC,IntKind.wrap_u64]
  omega)
 have HQ:Hid (L/2^(64-a).toNat=Q):=ie (by
  rw[<-hQ,<-hL,u2]
  push_cast
  rfl)
 have HO:Hid (bits BinOp.or IntKind.u64 T Q=R):=ie (by
  rw[<-hT,<-hQ,<-hR];exact or_high (by omega) hT64 hl)
 rw[hR,hC,ha]at HRA
 have HW:=ie (show IntKind.u64.wrap T=T from IntWalk.u64_in _ (by omega))
 have a0:0<=a:=by omega
 have a1:a<=64:=by omega
 have hHn:(H==0)=false:=by
  have:H≠0:=by omega
  simpa using this
 have HA:=ie ha;have HL:=ie hL;have HH:=ie hH;obtain⟨X,hX⟩:∃X,e-a=X:=⟨_,rfl⟩;rw[hX]at HRA
 have HX:=ie (show IntKind.i64.wrap (e-a)=X by rw[hX];exact IntWalk.i64_in _ (by omega))
 have HSB:=ie (show IntKind.i64.wrap (64-a)=64-a from IntWalk.i64_in _ (by omega))
 clear ha hL hH hT hR hQ hP hC hX hb u1 u2 hT64
 go_enter Tryz.func255,Tryz.ntmps255
 go_upto_region 1 with (fail)
 generalize hW1:(w.alloc _).alloc _=w1 at *;obtain⟨X1,XR,HB⟩:=Bo.en2 hW1;clear hW1;have xX1:=X1.cell
 go_wp2_with fail
 refine(lead64_any _ hh HH.out HA.out).mono ?_;rintro ee w5 ⟨rfl,B⟩;clear xX1;replace X1:=X1.b B;replace XR:=XR.b B;replace HB:=Hqb HB B;clear B
 go_upto_region 5 with (fail)
 refine jk [0,1,2,3,4,5,6,7,8,9,10] [some 18,some 19,some 20,some 21,some 22,some 23,some 24,some 25,some 26,some 27,some 28,none] [[],[0],[],[1,2],[],[4],[],[6],[5,7],[3,8],[],[]] 12 1 [Jo.qp w.heap.size 1,Jo.Fact.eq (.int .u64 H),Jo.qi a,Jo.Fact.eq (.int .u64 T),Jo.qp w.heap.size 2,Jo.Fact.eq (.int .u64 L),Jo.qi a,Jo.Fact.eq (.int .i64 (64-a)),Jo.Fact.eq (.int .u64 Q),Jo.Fact.eq (.int .u64 R),Jo.qp w.heap.size 1,Jo.Fact.any] ?_ ?_
 ·refine jm ?_ ?_;rotate_left
  refine jm ?_ ?_
  ·rintro wj hJ _ rfl K hK;simp only[Jo.z]at hK|-;have xX11:=(X1.b hJ).a 1 (.int .u64 H) rfl;go_simp;exact hK.out _ _ rfl (br _ _)
  refine jm ?_ ?_;rotate_left
  refine jm ?_ ?_
  ·rintro wj hJ _ rfl _ rfl K hK;simp only[Jo.z]at hK|-;have hs:=HS.out;have hw:=HW.out;go_simp;exact hK.out _ _ rfl (br _ _)
  refine jm ?_ ?_;rotate_left
  refine jm ?_ ?_
  ·rintro wj hJ _ rfl K hK;simp only[Jo.z]at hK|-;have xX12:=(X1.b hJ).a 2 (.int .u64 L) rfl;go_simp;exact hK.out _ _ rfl (br _ _)
  refine jm ?_ ?_;rotate_left
  refine jm ?_ ?_
  ·rintro wj hJ _ rfl K hK;simp only[Jo.z]at hK|-;have hsb:=HSB.out;go_simp;exact hK.out _ _ rfl (br _ _)
  refine jm ?_ ?_
  ·rintro wj hJ _ rfl _ rfl K hK;simp only[Jo.z]at hK|-;have hq:=HQ.out;go_simp;exact hK.out _ _ rfl (br _ _)
  refine jm ?_ ?_
  ·rintro wj hJ _ rfl _ rfl K hK;simp only[Jo.z]at hK|-;have ho:=HO.out;go_simp;exact hK.out _ _ rfl (br _ _)
  refine jm ?_ ?_;rotate_left
  exact jo
  all_goals (rintro wj hJ;(repeat rintro _ rfl);intro K hK;simp only[Jo.z]at hK|-;go_simp;exact hK.out _ _ rfl (br _ _))
 rintro w6 hJ _ _ _ rfl _ rfl _ rfl _ _ _ rfl _ rfl _ rfl _ rfl _ rfl _ rfl -;simp only[Jo.z];replace X1:=X1.b hJ;replace XR:=XR.b hJ;replace HB:=Hqb HB hJ;have xX1:=X1.cell;have zX10:=X1.frozen
 refine jn 11 fun K hK=>?_
 go_simp;refine hK.out _ _ ?_;clear hK K xX1 zX10
 have SX:StN w6 (World.setCell w6 ⟨w.heap.size,1,none⟩ (.int .u64 R)) _ _ #[.bool s,.int .u64 R,.int .u64 L,.int .i64 e] _:=StN.at4 X1 1 (.int .u64 R)
 replace XR:=XR.s SX;replace HB:=Hqs HB SX (by omega);replace X1:=SX.box;clear SX;generalize World.setCell w6 ⟨w.heap.size,1,none⟩ (.int .u64 R)=w7 at *;refine jd ?_;have xX1:=X1.cell;have zX10:=X1.frozen;have hp:=HP.out;have hpc:=HPC.out
 go_upto_region 7 with (fail)
 clear hp hpc;clear xX1 zX10
 have SX:StN w7 (World.setCell w7 ⟨w.heap.size,2,none⟩ (.int .u64 C)) _ _ #[.bool s,.int .u64 R,.int .u64 C,.int .i64 e] _:=StN.at4 X1 2 (.int .u64 C)
 replace XR:=XR.s SX;replace HB:=Hqs HB SX (by omega);replace X1:=SX.box;clear SX;generalize World.setCell w7 ⟨w.heap.size,2,none⟩ (.int .u64 C)=w8 at *;have xX1:=X1.cell;have zX10:=X1.frozen;have hx:=HX.out
 go_upto_region 8 with (fail)
 clear hx;clear xX1 zX10
 have SX:StN w8 (World.setCell w8 ⟨w.heap.size,3,none⟩ (.int .i64 X)) _ _ #[.bool s,.int .u64 R,.int .u64 C,.int .i64 X] _:=StN.at4 X1 3 (.int .i64 X)
 replace XR:=XR.s SX;replace HB:=Hqs HB SX (by omega);replace X1:=SX.box;clear SX;generalize World.setCell w8 ⟨w.heap.size,3,none⟩ (.int .i64 X)=w9 at *;have xXR:=XR.cell;have zXR0:=XR.frozen;have xX1:=X1.cell;go_wp2;clear xXR zXR0 xX1;have SX:=StN.mk4 XR (.bool s) (.int .u64 R) (.int .u64 C) (.int .i64 X)
 exact bq (by simp[results,Tryz.results255,go_sem,SX.box.cell]) rfl ⟨_,_,_,rfl,HRA.out,(SX.below HB.out (by omega))⟩
theorem aRaised{w:World}{s:Bool}{h l:Nat}{H L e:Int}(hh:h < 18446744073709551616)(hl:l < 18446744073709551616)(hH:(h:Int)=H)(hL:(l:Int)=L)(e1: -4000000<=e)(e2:e<=4000000):Calls Tryz.prog 255 #[.agg #[.bool s,.int .u64 H,.int .u64 L,.int .i64 e]] w (PRa w s (h*18446744073709551616+l) (e-64)):=by
 by_cases h0:h=0
 ·subst h0;subst hH;rw[Nat.zero_mul,Nat.zero_add];exact raised_low hl hL e1 e2
 ·exact raised_high h0 hh hl hH hL e1 e2
theorem cut_cases{S:Nat}{F T C X r:Int}{s t:Bool}(ra:Ra S F T C X)(hr:sgi s (lo S F)=r)(ht:exw S F=t):
  (T=0/\0=r/\true=t)\/((T==0)=false/\1048576 < X/\false=t/\nx s (sgi s TP)=r)\/((T==0)=false/\¬1048576 < X/\X < -1048576/\false=t/\0=r)\/((T==0)=false/\ -1048576<=X/\X<=1048576/\Fq 1 s T X r/\(C==0)=t):=by
 obtain⟨t0,t1,k0,k1,hT,hx⟩:=ra
 unfold lo at hr
 unfold exw at ht
 by_cases h0:S=0
 ·rw[if_pos h0]at hr
  have e0:(S==0)=true:=by simpa using h0
  rw[e0,Bool.true_or]at ht;refine .inl ⟨?_,?_,ht⟩
  ·rw[hT,h0]
   rfl
  ·rw[<-hr]
   cases s <;> rfl
 ·right
  rw[if_neg h0]at hr
  have e0:(S==0)=false:=by simpa using h0
  rw[e0,Bool.false_or]at ht;obtain⟨x1,x2⟩:=hx h0;have g1:=tp_ge h0
  have eT:(T==0)=false:=by
   have:T≠0:=by omega
   simpa using this
  rw[<-x1]at hr ht
  by_cases c1:1048576 < X
  ·rw[if_pos c1]at hr
   rw[show decide (X<=1048576)=false from df (by omega),Bool.false_and]at ht
   refine .inl ⟨eT,c1,ht,?_⟩;rw[<-hr]
   have:=TP_eq
   unfold nx
   cases s
   ·rw[wsg_f,wsg_f,if_neg (by decide)]
    omega
   ·rw[wsg_t,wsg_t,if_pos rfl]
    omega
  ·right
   rw[if_neg c1]at hr
   rw[show decide (X<=1048576)=true from dt (by omega),Bool.true_and]at ht
   by_cases c2:X < -1048576
   ·rw[if_pos c2]at hr
    rw[show decide (-1048576<=X)=false from df (by omega),Bool.false_and]at ht
    refine .inl ⟨eT,c1,c2,ht,?_⟩;rw[<-hr]
    cases s <;> rfl
   ·rw[if_neg c2]at hr
    rw[show decide (-1048576<=X)=true from dt (by omega),Bool.true_and]at ht
    refine .inr ⟨eT,by omega,by omega,?_,?_⟩
    ·rw[<-hT]at hr;exact Fq.fin (by omega) t1 (by omega) (by omega) hr
    ·rw[<-ht,Bool.eq_iff_iff,decide_eq_true_iff,<-x2]
     simp
theorem aCut{w:World}{s t:Bool}{h l:Nat}{H L e r:Int}(hh:h < 18446744073709551616)(hl:l < 18446744073709551616)(hH:(h:Int)=H)(hL:(l:Int)=L)(e1: -4000000<=e)(e2:e<=4000000)(hr:sgi s (lo (h*18446744073709551616+l) (e-64))=r)(ht:exw (h*18446744073709551616+l) (e-64)=t):
  Calls Tryz.prog 232 #[.agg #[.bool s,.int .u64 H,.int .u64 L,.int .i64 e]] w (PNB w r t):=by
 have HR:=ie hr;have HT:=ie ht;clear hr ht
 go_enter Tryz.func232,Tryz.ntmps232
 go_upto_region 1 with (fail)
 generalize hW1:(w.alloc _).alloc _=w1 at *;obtain⟨X1,XR,HB⟩:=Bo.en2 hW1;clear hW1;have xX1:=X1.cell
 go_wp2_with fail
 refine(aRaised hh hl hH hL e1 e2).mono ?_;rintro ee w2 ⟨T,C,X,rfl,ra,B⟩;clear xX1;replace X1:=X1.b B;replace XR:=XR.b B;replace HB:=Hqb HB B;clear B;have xX1:=X1.cell;have zX10:=X1.frozen
 go_upto_region 2 with (fail)
 clear xX1 zX10;generalize hS:(((w2.setCell _ _).setCell _ _).setCell _ _).setCell _ _=w3 at *;have SX:=StN.of4 X1 hS;replace XR:=XR.s SX;replace HB:=Hqs HB SX (by omega);replace X1:=SX.box;clear SX hS;have hcc:=cut_cases ra HR.out HT.out;clear ra HR HT hh hl hH hL e1 e2
 rcases hcc with⟨g1,g2,g3⟩ | ⟨g1,g2,g3,g4⟩ | ⟨g1,g2,g3,g4,g5⟩ | ⟨g1,g2,g3,g4,g5⟩
 ·subst g1;subst g2;subst g3;have xXR:=XR.cell;have zXR0:=XR.frozen;have xX1:=X1.cell;go_wp2;clear xXR zXR0 xX1;have SX:=StN.t4 XR 0 false 0 0;exact bq (v:= .tuple #[.agg #[.int .i64 0,.bool false,.int .u64 0,.int .i64 0],.bool true]) (by simp[results,Tryz.results232,go_sem,SX.box.cell]) rfl ⟨_,_,_,_,rfl,Fq.nought,(SX.below HB.out (by omega))⟩
 ·subst g3;obtain⟨i,hi⟩:∃i,sgi s TP=i:=⟨_,rfl⟩;rw[hi]at g4;have HI:=ie hi;have HN:=ie g4;clear hi g4;have xX1:=X1.cell
  go_upto_region 5 with (fail)
  clear xX1;refine jk [0,1,2,3,4,5] [some 15,some 16,some 17,some 18,some 19,some 20,none,some 3] [[],[0],[1],[],[3],[2,4],[],[]] 8 2 [Jo.qp w.heap.size 0,Jo.qb s,Jo.Fact.num i,Jo.qp w.heap.size 0,Jo.qb s,Jo.Fact.num r,Jo.Fact.any,Jo.Fact.any] ?_ ?_
  ·refine jm ?_ ?_;rotate_left
   refine jm ?_ ?_
   ·rintro wj hJ _ rfl K hK;simp only[Jo.z]at hK|-;have xX10:=(X1.b hJ).a 0 (.bool s) rfl;go_simp;exact hK.out _ _ rfl (br _ _)
   refine jm ?_ ?_
   ·rintro wj hJ _ rfl K hK;simp only[Jo.z]at hK|-;go_simp;exact Jo.n1 (nInf HI.out) hK.out
   refine jm ?_ ?_;rotate_left
   refine jm ?_ ?_
   ·rintro wj hJ _ rfl K hK;simp only[Jo.z]at hK|-;have xX10:=(X1.b hJ).a 0 (.bool s) rfl;go_simp;exact hK.out _ _ rfl (br _ _)
   refine jm ?_ ?_
   ·rintro wj hJ _ ⟨K4,s4,M4,E4,rfl,q4⟩ _ rfl K hK;simp only[Jo.z]at hK|-;go_simp;refine(nNext (r:=r) q4.top (by rw[q4.rk];exact HN.out)).mono ?_;rintro ee wk ⟨K5,s5,M5,E5,rfl,q5,B⟩;exact hK.out _ _ ⟨K5,s5,M5,E5,rfl,q5⟩ B
   exact jo
   all_goals (rintro wj hJ;(repeat rintro _ rfl);intro K hK;simp only[Jo.z]at hK|-;go_simp;exact hK.out _ _ rfl (br _ _))
  rintro w4 hJ _ _ _ rfl _ ⟨K4,s4,M4,E4,rfl,_⟩ _ _ _ rfl _ ⟨K5,s5,M5,E5,rfl,q5⟩ -;simp only[Jo.z];replace X1:=X1.b hJ;replace XR:=XR.b hJ;replace HB:=Hqb HB hJ;have xXR:=XR.cell;have zXR0:=XR.frozen
  refine jn 6 fun K hK=>?_
  go_simp;refine hK.out _ _ ?_;clear hK K xXR zXR0;generalize hS:(((w4.setCell _ _).setCell _ _).setCell _ _).setCell _ _=w5 at *;have SX:=StN.of4 XR hS;replace X1:=X1.s SX;replace HB:=Hqs HB SX (by omega);replace XR:=SX.box;clear SX hS
  refine jn 7 fun K hK=>?_
  go_simp;refine hK.out _ _ ?_;clear hK K;refine jd ?_;go_wp2;exact bq (v:= .tuple #[.agg #[.int .i64 K5,.bool s5,.int .u64 M5,.int .i64 E5],.bool false]) (by simp[results,Tryz.results232,go_sem,XR.cell]) rfl ⟨_,_,_,_,rfl,q5,HB.out⟩
 ·subst g4;subst g5;have xXR:=XR.cell;have zXR0:=XR.frozen;have xX1:=X1.cell;go_wp2;clear xXR zXR0 xX1;have SX:=StN.t4 XR 0 false 0 0;exact bq (v:= .tuple #[.agg #[.int .i64 0,.bool false,.int .u64 0,.int .i64 0],.bool false]) (by simp[results,Tryz.results232,go_sem,SX.box.cell]) rfl ⟨_,_,_,_,rfl,Fq.nought,(SX.below HB.out (by omega))⟩
 ·have HTT:=ie g5;clear g5;have xX1:=X1.cell
  go_upto_region 8 with (fail)
  clear xX1;refine Jo.rl (w.heap.size+1) #[.int .i64 1,.bool s,.int .u64 T,.int .i64 X] 24 [0,1,2,3,4,5,6,7,8,9,10] [some 26,some 27,some 28,some 29,some 30,some 31,some 32,some 33,some 34,some 35,none,some 3] [[],[0],[],[2],[],[4],[1,3,5],[],[7],[8],[6],[]] 12 1 [Jo.kp w.heap.size 0,Jo.LFact.eq (.bool s),Jo.kp w.heap.size 1,Jo.LFact.eq (.int .u64 T),Jo.kp w.heap.size 3,Jo.LFact.eq (.int .i64 X),Jo.LFact.eq (.agg #[.int .i64 1,.bool s,.int .u64 T,.int .i64 X]),Jo.kp w.heap.size 2,Jo.LFact.eq (.int .u64 C),Jo.LFact.eq (.bool t),Jo.LFact.done,Jo.LFact.any] (by kernel_rfl) (by kernel_rfl) (by decide) rfl ?_ ?_
  ·refine Jo.lm rfl ?_ ?_
   ·rintro wj hJ K hK;simp only[Jo.z]at hK|-;go_simp;exact hK.out _ _ rfl (Jo.Off.refl _ _ _ _)
   refine Jo.lm rfl ?_ ?_
   ·rintro wj hJ _ rfl K hK;simp only[Jo.z]at hK|-;replace X1:=X1.off (by omega) hJ;have xX1:=X1.cell;go_simp;exact hK.out _ _ rfl (Jo.Off.refl _ _ _ _)
   refine Jo.lm rfl ?_ ?_
   ·rintro wj hJ K hK;simp only[Jo.z]at hK|-;go_simp;exact hK.out _ _ rfl (Jo.Off.refl _ _ _ _)
   refine Jo.lm rfl ?_ ?_
   ·rintro wj hJ _ rfl K hK;simp only[Jo.z]at hK|-;replace X1:=X1.off (by omega) hJ;have xX1:=X1.cell;go_simp;exact hK.out _ _ rfl (Jo.Off.refl _ _ _ _)
   refine Jo.lm rfl ?_ ?_
   ·rintro wj hJ K hK;simp only[Jo.z]at hK|-;go_simp;exact hK.out _ _ rfl (Jo.Off.refl _ _ _ _)
   refine Jo.lm rfl ?_ ?_
   ·rintro wj hJ _ rfl K hK;simp only[Jo.z]at hK|-;replace X1:=X1.off (by omega) hJ;have xX1:=X1.cell;go_simp;exact hK.out _ _ rfl (Jo.Off.refl _ _ _ _)
   refine Jo.lm rfl ?_ ?_
   ·rintro wj hJ _ rfl _ rfl _ rfl K hK;simp only[Jo.z]at hK|-;go_simp;exact hK.out _ _ rfl (Jo.Off.refl _ _ _ _)
   refine Jo.lm rfl ?_ ?_
   ·rintro wj hJ K hK;simp only[Jo.z]at hK|-;go_simp;exact hK.out _ _ rfl (Jo.Off.refl _ _ _ _)
   refine Jo.lm rfl ?_ ?_
   ·rintro wj hJ _ rfl K hK;simp only[Jo.z]at hK|-;replace X1:=X1.off (by omega) hJ;have xX1:=X1.cell;go_simp;exact hK.out _ _ rfl (Jo.Off.refl _ _ _ _)
   refine Jo.lm rfl ?_ ?_
   ·rintro wj hJ _ rfl K hK;simp only[Jo.z]at hK|-;have htt:=HTT.out;go_simp
    exact hK.out _ _ (by first | rfl | (show Value.bool _=Value.bool _;rw[htt])) (Jo.Off.refl _ _ _ _)
   refine Jo.lm rfl ?_ ?_
   ·rintro wj hJ _ rfl K hK;simp only[Jo.z]at hK|-
    obtain⟨v0,v1,v2,v3,XO⟩:∃v0 v1 v2 v3,Bo wj (w.heap.size+1) #[v0,v1,v2,v3] 24:=by
     rcases hJ.own with e | e
     ·exact⟨_,_,_,_,XR.keep e⟩
     ·exact⟨_,_,_,_,e⟩
    have y0:=XO.a 0 (v0) rfl;have u0:=XO.frozen 0;have y1:=XO.a 1 (v1) rfl;have u1:=XO.frozen 1;have y2:=XO.a 2 (v2) rfl;have u2:=XO.frozen 2;have y3:=XO.a 3 (v3) rfl;have u3:=XO.frozen 3;go_simp;have SX:=StN.t4 XO 1 s T X;exact hK.out undef _ SX.box (Jo.Off.of_stn SX)
   exact jo
  rintro w4 hJ _ _ _ rfl _ _ _ rfl _ _ _ rfl _ rfl _ _ _ rfl _ rfl u10 d10 -;simp only[Jo.z];replace HB:=ie (hJ.below HB.out (by omega) XR.lt)
  replace XR:Bo w4 (w.heap.size+1) #[.int .i64 1,.bool s,.int .u64 T,.int .i64 X] 24:=d10
  refine jn 11 fun K hK=>?_
  go_simp;refine hK.out _ _ ?_;clear hK K;refine jd ?_;go_wp2;exact bq (v:= .tuple #[.agg #[.int .i64 1,.bool s,.int .u64 T,.int .i64 X],.bool t]) (by simp[results,Tryz.results232,go_sem,XR.cell]) rfl ⟨_,_,_,_,rfl,g4,HB.out⟩
def Wd (s:Bool)(H L e:Int)(f:Bool->Int):Prop:=∃h l:Nat,h < 18446744073709551616/\l < 18446744073709551616/\(h:Int)=H/\(l:Int)=L/\ -2900000<=e/\e<=2900000/\∀up,rnd up (mk (sgi s ((h*18446744073709551616+l:Nat):Int)) (e-64)).1 (mk (sgi s ((h*18446744073709551616+l:Nat):Int)) (e-64)).2=f up
def PW6 (w:World)(f:Bool->Int)(e:Ending)(w':World):Prop:=∃s H L x,e= .returned (.agg #[.bool s,.int .u64 H,.int .u64 L,.int .i64 x])/\Wd s H L x f/\Below w.heap.size w w'
theorem aRound{w:World}{s up:Bool}{H L e r:Int}{fu:Bool->Int}(hw:Wd s H L e fu)(hr:fu up=r):
  Calls Tryz.prog 179 #[.agg #[.bool s,.int .u64 H,.int .u64 L,.int .i64 e],.bool up] w (PN w r):=by
 obtain⟨h,l,hh,hl,hH,hL,e1,e2,hf⟩:=hw
 have e3: -4000000<=e:=by omega
 have e4:e<=4000000:=by omega
 obtain⟨w1_,w2_,w3_⟩:=wide_rnd (neg:=s) (S:=h*18446744073709551616+l) (F:=e-64) (by omega) (by omega) (by omega) rfl rfl
 have k1:exw (h*18446744073709551616+l) (e-64)=true->sgi s (lo (h*18446744073709551616+l) (e-64))=r:=fun c=>by
  rw[<-w1_ c up,hf up,hr]
 have k2:s=up->sgi s (lo (h*18446744073709551616+l) (e-64))=r:=fun c=>by
  rw[<-w2_,hf s,c,hr]
 have k3:exw (h*18446744073709551616+l) (e-64)=false->(!s)=up->nx up (sgi s (lo (h*18446744073709551616+l) (e-64)))=r:=fun c d=>by
  rw[<-d,<-w3_ c,hf (!s),d,hr]
 obtain⟨x,hx⟩:∃x,sgi s (lo (h*18446744073709551616+l) (e-64))=x:=⟨_,rfl⟩;obtain⟨t,ht⟩:∃t,exw (h*18446744073709551616+l) (e-64)=t:=⟨_,rfl⟩;rw[hx,ht]at k1 k3;rw[hx]at k2;have HX:=ie hx;have HT:=ie ht;have K1_:=ie k1;have K2_:=ie k2;have K3_:=ie k3;clear hx ht k1 k2 k3 w1_ w2_ w3_ hf hr e1 e2
 go_enter Tryz.func179,Tryz.ntmps179
 go_upto_region 1 with (fail)
 generalize hW1:(w.alloc _).alloc _=w1 at *;obtain⟨X1,XR,HB⟩:=Bo.en2 hW1;clear hW1;have xX1:=X1.cell
 go_wp2_with fail
 refine(aCut hh hl hH hL e3 e4 HX.out HT.out).mono ?_;rintro ee w5 ⟨K2,s2,M2,E2,rfl,q2,B⟩;clear xX1;replace X1:=X1.b B;replace XR:=XR.b B;replace HB:=Hqb HB B;clear B;clear HX HT
 go_upto_region 2 with (fail)
 have nX5X1:=X1.lt;have nX5XR:=XR.lt;generalize hWn:w5.alloc _=w6 at *;obtain⟨X5,BW⟩:=Bo.nw hWn;clear hWn;replace X1:=X1.b BW;replace XR:=XR.b BW;replace HB:=Hqb HB BW;clear BW
 by_cases ht:t=true
 ·subst ht
  obtain rfl:x=r:=K1_.out rfl
  clear K1_ K2_ K3_;have xXR:=XR.cell;have zXR0:=XR.frozen;have xX1:=X1.cell;have xX5:=X5.cell;go_wp2;clear xXR zXR0 xX1 xX5;have SX:=StN.t4 XR K2 s2 M2 E2;exact bq (by simp[results,Tryz.results179,go_sem,SX.box.cell]) rfl ⟨_,_,_,_,rfl,q2,(SX.below HB.out (by omega))⟩
 ·have ht:t=false:=by simpa using ht
  subst ht
  by_cases hs:s=up
  ·obtain rfl:x=r:=K2_.out hs
   clear K1_ K2_ K3_;subst hs;have xXR:=XR.cell;have zXR0:=XR.frozen;have xX1:=X1.cell;have xX5:=X5.cell;go_wp2;clear xXR zXR0 xX1 xX5;have SX:=StN.t4 XR K2 s2 M2 E2;exact bq (by simp[results,Tryz.results179,go_sem,SX.box.cell]) rfl ⟨_,_,_,_,rfl,q2,(SX.below HB.out (by omega))⟩
  ·obtain rfl:(!s)=up:=by cases s <;> cases up <;> first | rfl | exact absurd rfl hs
   clear hs
   have e2:(s==!s)=false:=by cases s <;> rfl
   have HRR:Hid (nx (!s) (rk K2 s2 M2 E2)=r):=ie (by rw[q2.rk];exact K3_.out rfl rfl)
   clear K1_ K2_ K3_;have xX1:=X1.cell;have xX5:=X5.cell
   go_wp2_with fail
   refine(nNext q2.top HRR.out).mono ?_;rintro ee w7 ⟨K3,s3,M3,E3,rfl,q3,B⟩;clear xX1 xX5;replace X1:=X1.b B;replace XR:=XR.b B;replace X5:=X5.b B;replace HB:=Hqb HB B;clear B;have xXR:=XR.cell;have zXR0:=XR.frozen;have xX1:=X1.cell;have xX5:=X5.cell
   go_wp2;clear xXR zXR0 xX1 xX5;have SX:=StN.t4 XR K3 s3 M3 E3;exact bq (by simp[results,Tryz.results179,go_sem,SX.box.cell]) rfl ⟨_,_,_,_,rfl,q3,(SX.below HB.out (by omega))⟩
def PMv (w:World)(s:Bool)(V x:Int)(e:Ending)(w':World):Prop:=∃H L,e= .returned (.agg #[.bool s,.int .u64 H,.int .u64 L,.int .i64 x])/\(0<=H/\H < 18446744073709551616/\0<=L/\L < 18446744073709551616/\H*18446744073709551616+L=V)/\Below w.heap.size w w'
theorem shr64_any{M k Q:Int}(h0:0<=M)(hM:LQ M)(hk:0<=k)(hQ:M/2^k.toNat=Q):Op.shift .shr .u64 M .i64 k=pure (.int .u64 Q):=by
 subst hQ
 rcases Int.lt_or_le k 65 with c | c
 ·exact shift_shr .u64 .i64 M k hk (by show k<=64;omega)
 ·have e1:min k.toNat IntKind.u64.bits=64:=by show min k.toNat 64=64;omega
  have e2:M/2^k.toNat=0:=Int.ediv_eq_zero_of_lt h0 (Int.lt_of_lt_of_le (show M < 2^64 from hM) (p2_le (by omega)))
  have e3:M.fdiv (2^64)=0:=by
   rw[Int.fdiv_eq_ediv_of_nonneg _ (by decide)];exact Int.ediv_eq_zero_of_lt h0 hM
  unfold Op.shift
  rw[if_neg (by omega),e1,e2]
  show pure (Value.int .u64 (M.fdiv (2^64)))=_
  rw[e3]
theorem or_one{Q:Int}(h0:0<=Q)(h1:LQ Q):bits BinOp.or IntKind.u64 Q 1=Q/2*2+1:=by
 obtain⟨q,rfl⟩:=Int.eq_ofNat_of_zero_le h0;have h:=u64_or_nat q 1 (by omega) (by decide)
 have e:q ||| 1=q/2*2+1:=by
  apply Nat.eq_of_testBit_eq
  intro i
  cases i with
  | zero=>simp [Nat.testBit_zero]
  | succ i=>
   rw[Nat.testBit_or,Nat.testBit_add_one,Nat.testBit_add_one,Nat.testBit_add_one,show (1:Nat) /2=0 by decide,show (q/2*2+1) /2=q/2 by omega,Nat.zero_testBit,Bool.or_false]
 rw[e]at h;exact h
theorem mv_low{M:Int}{n:Nat}(h0:0<=M)(hM:LQ M)(h1:1<=n)(h2:n<=64):0<=M/2^n/\M/2^n < 18446744073709551616/\M/2^n*18446744073709551616+M*2^(64-n)%18446744073709551616=mvd M n:=by
 obtain⟨a,b⟩:=div_le_self h0 (p2pos n);refine⟨a,by omega,?_⟩
 have e1:M*2^(64-n) /18446744073709551616=M/2^n:=by
  rw[show (18446744073709551616:Int)=2^n*2^(64-n) by rw[<-Int.pow_add,show n+(64-n)=64 by omega];rfl]
  exact Int.mul_ediv_mul_of_pos_left _ _ (p2pos _)
 unfold mvd
 rw[if_pos h2,<-e1]
 omega
theorem moved_low{w:World}{s:Bool}{M E N X:Int}{n:Nat}(hT:Tb w)(h0:9223372036854775808<=M)(hM:LQ M)(hN:(n:Int)=N)(hX:E+N=X)(b1: -2000000<=E)(b2:E<=2000000)(n1:1<=n)(n2:n<=64):Calls Tryz.prog 229 #[VQ 1 s M E,.int .i64 N] w (PMv w s (mvd M n) X):=by
 delta VQ
 obtain⟨v1,v2,v3⟩:=mv_low (show 0<=M by omega) hM n1 n2
 obtain⟨H,hH⟩:∃H,M/2^n=H:=⟨_,rfl⟩;obtain⟨P,hP⟩:∃P,M*2^(64-n)=P:=⟨_,rfl⟩;obtain⟨L,hL⟩:∃L,P%18446744073709551616=L:=⟨_,rfl⟩;rw[hP,hL]at v3;rw[hH]at v1 v2 v3
 have l1:0<=L/\L < 18446744073709551616:=by omega
 have HH:Hid (M/2^N.toNat=H):=ie (by rw[<-hN];exact hH)
 have HP:Hid (M*2^(64-N).toNat=P):=ie (by rw[<-hN,show (64-(n:Int)).toNat=64-n by omega];exact hP)
 have HL:Hid (IntKind.u64.wrap P=L):=ie (by rw[IntKind.wrap_u64];exact hL)
 have HV:=ie v3
 have HX:=ie (show IntKind.i64.wrap (E+N)=X by rw[hX];exact IntWalk.i64_in _ (by omega))
 have HSB:=ie (show IntKind.i64.wrap (64-N)=64-N from IntWalk.i64_in _ (by omega))
 have m1:1<=N:=by omega
 have m2:N<=64:=by omega
 clear hH hP hL v3 hX hN
 go_enter Tryz.func229,Tryz.ntmps229
 go_upto_region 1 with (fail)
 generalize hW1:(w.alloc _).alloc _=w1 at *;obtain⟨X2,XR,HB⟩:=Bo.en2 hW1;clear hW1;have xX2:=X2.cell;have hx:=HX.out
 go_upto_region 2 with (fail)
 clear hx;clear xX2;have nX5X2:=X2.lt;have nX5XR:=XR.lt;generalize hWn:w1.alloc _=w2 at *;obtain⟨X5,BW⟩:=Bo.nw hWn;clear hWn;replace X2:=X2.b BW;replace XR:=XR.b BW;replace HB:=Hqb HB BW;clear BW;have xX2:=X2.cell;have xX5:=X5.cell
 go_upto_region 3 with (fail)
 clear xX2 xX5;refine Jo.rl (w1.heap.size) #[.bool s,.int .u64 H,.int .u64 0,.int .i64 X] 132 [0,1,2,3,4,5,6,7,8,9,10,11] [some 15,some 16,some 17,some 18,some 19,some 20,some 21,some 22,some 23,some 24,none,some 25,none] [[],[0],[],[1,2],[],[4],[],[6],[5,7],[],[3,9],[],[]] 13 1 [Jo.kp w.heap.size 2,Jo.LFact.eq (.int .u64 M),Jo.LFact.eq (.int .i64 N),Jo.LFact.eq (.int .u64 H),Jo.kp w.heap.size 2,Jo.LFact.eq (.int .u64 M),Jo.LFact.eq (.int .i64 N),Jo.LFact.eq (.int .i64 (64-N)),Jo.LFact.eq (.int .u64 L),Jo.kp w1.heap.size 1,Jo.LFact.done,Jo.kp w1.heap.size 2,Jo.LFact.any] (by kernel_rfl) (by kernel_rfl) (by decide) rfl ?_ ?_
 ·refine Jo.lm rfl ?_ ?_
  ·rintro wj hJ K hK;simp only[Jo.z]at hK|-;go_simp;exact hK.out _ _ rfl (Jo.Off.refl _ _ _ _)
  refine Jo.lm rfl ?_ ?_
  ·rintro wj hJ _ rfl K hK;simp only[Jo.z]at hK|-;replace X2:=X2.off (by omega) hJ;have xX2:=X2.cell;go_simp;exact hK.out _ _ rfl (Jo.Off.refl _ _ _ _)
  refine Jo.lm rfl ?_ ?_
  ·rintro wj hJ K hK;simp only[Jo.z]at hK|-;go_simp;exact hK.out _ _ rfl (Jo.Off.refl _ _ _ _)
  refine Jo.lm rfl ?_ ?_
  ·rintro wj hJ _ rfl _ rfl K hK;simp only[Jo.z]at hK|-;have hh:=HH.out;go_simp;exact hK.out _ _ rfl (Jo.Off.refl _ _ _ _)
  refine Jo.lm rfl ?_ ?_
  ·rintro wj hJ K hK;simp only[Jo.z]at hK|-;go_simp;exact hK.out _ _ rfl (Jo.Off.refl _ _ _ _)
  refine Jo.lm rfl ?_ ?_
  ·rintro wj hJ _ rfl K hK;simp only[Jo.z]at hK|-;replace X2:=X2.off (by omega) hJ;have xX2:=X2.cell;go_simp;exact hK.out _ _ rfl (Jo.Off.refl _ _ _ _)
  refine Jo.lm rfl ?_ ?_
  ·rintro wj hJ K hK;simp only[Jo.z]at hK|-;go_simp;exact hK.out _ _ rfl (Jo.Off.refl _ _ _ _)
  refine Jo.lm rfl ?_ ?_
  ·rintro wj hJ _ rfl K hK;simp only[Jo.z]at hK|-;have hsb:=HSB.out;go_simp;exact hK.out _ _ rfl (Jo.Off.refl _ _ _ _)
  refine Jo.lm rfl ?_ ?_
  ·rintro wj hJ _ rfl _ rfl K hK;simp only[Jo.z]at hK|-;have hp:=HP.out;have hl:=HL.out;go_simp;exact hK.out _ _ rfl (Jo.Off.refl _ _ _ _)
  refine Jo.lm rfl ?_ ?_
  ·rintro wj hJ K hK;simp only[Jo.z]at hK|-;go_simp;exact hK.out _ _ rfl (Jo.Off.refl _ _ _ _)
  refine Jo.lm rfl ?_ ?_
  ·rintro wj hJ _ rfl _ rfl K hK;simp only[Jo.z]at hK|-
   rcases hJ.own with e | e
   ·have XO:Bo wj (w1.heap.size) #[.bool s,.int .u64 0,.int .u64 0,.int .i64 X] 132:=X5.keep e
    have y0:=XO.a 0 (.bool s) rfl;have u0:=XO.frozen 0;have y1:=XO.a 1 (.int .u64 0) rfl;have u1:=XO.frozen 1;have y2:=XO.a 2 (.int .u64 0) rfl;have u2:=XO.frozen 2;have y3:=XO.a 3 (.int .i64 X) rfl;have u3:=XO.frozen 3;go_simp
    have SX:StN wj (World.setCell wj ⟨w1.heap.size,1,none⟩ (.int .u64 H)) _ _ #[.bool s,.int .u64 H,.int .u64 0,.int .i64 X] _:=StN.at4 XO 1 (.int .u64 H)
    exact hK.out undef _ SX.box (Jo.Off.of_stn SX)
   ·have XO:Bo wj (w1.heap.size) #[.bool s,.int .u64 H,.int .u64 0,.int .i64 X] 132:=e
    have y0:=XO.a 0 (.bool s) rfl;have u0:=XO.frozen 0;have y1:=XO.a 1 (.int .u64 H) rfl;have u1:=XO.frozen 1;have y2:=XO.a 2 (.int .u64 0) rfl;have u2:=XO.frozen 2;have y3:=XO.a 3 (.int .i64 X) rfl;have u3:=XO.frozen 3;go_simp
    have SX:StN wj (World.setCell wj ⟨w1.heap.size,1,none⟩ (.int .u64 H)) _ _ #[.bool s,.int .u64 H,.int .u64 0,.int .i64 X] _:=StN.at4 XO 1 (.int .u64 H)
    exact hK.out undef _ SX.box (Jo.Off.of_stn SX)
  refine Jo.lm rfl ?_ ?_
  ·rintro wj hJ K hK;simp only[Jo.z]at hK|-;go_simp;exact hK.out _ _ rfl (Jo.Off.refl _ _ _ _)
  exact jo
 rintro w3 hJ _ _ _ rfl _ rfl _ rfl _ _ _ rfl _ rfl _ rfl _ rfl _ _ u10 d10 _ rfl -;simp only[Jo.z];replace HB:=ie (hJ.below HB.out (by omega) X5.lt);replace XR:=XR.off (by omega) hJ
 replace X5:Bo w3 (w1.heap.size) #[.bool s,.int .u64 H,.int .u64 0,.int .i64 X] 132:=d10
 have xX5:=X5.cell;have zX50:=X5.frozen
 refine jn 12 fun K hK=>?_
 go_simp;refine hK.out _ _ ?_;clear hK K xX5 zX50
 have SX:StN w3 (World.setCell w3 ⟨w1.heap.size,2,none⟩ (.int .u64 L)) _ _ #[.bool s,.int .u64 H,.int .u64 L,.int .i64 X] _:=StN.at4 X5 2 (.int .u64 L)
 replace XR:=XR.s SX;replace HB:=Hqs HB SX (by omega);replace X5:=SX.box;clear SX;generalize World.setCell w3 ⟨w1.heap.size,2,none⟩ (.int .u64 L)=w4 at *;refine jd ?_;have xXR:=XR.cell;have zXR0:=XR.frozen;have xX5:=X5.cell;go_wp2;clear xXR zXR0 xX5
 have SX:=StN.mk4 XR (.bool s) (.int .u64 H) (.int .u64 L) (.int .i64 X);exact bq (v:= .agg #[.bool s,.int .u64 H,.int .u64 L,.int .i64 X]) (by simp[results,Tryz.results229,go_sem,SX.box.cell]) rfl ⟨H,L,rfl,⟨v1,v2,l1.1,l1.2,HV.out⟩,(SX.below HB.out (by omega))⟩
theorem moved_even{w:World}{s:Bool}{M E N X:Int}{n:Nat}(hT:Tb w)(h0:9223372036854775808<=M)(hM:LQ M)(hN:(n:Int)=N)(hX:E+N=X)(b1: -2000000<=E)(b2:E<=2000000)(n1:1<=n)(n2:64 < n)(n3:n<=4000000)(hr:M%2^(n-64)=0):Calls Tryz.prog 229 #[VQ 1 s M E,.int .i64 N] w (PMv w s (mvd M n) X):=by
 delta VQ
 obtain⟨v1,v2⟩:=div_le_self (show 0<=M by omega) (p2pos (n-64))
 obtain⟨Q,hQ⟩:∃Q,M/2^(n-64)=Q:=⟨_,rfl⟩;obtain⟨k,hk⟩:∃k,N-64=k:=⟨_,rfl⟩
 have hkn:k.toNat=n-64:=by omega
 have k1:1<=k:=by omega
 rw[hQ]at v1 v2
 have hV:mvd M n=Q:=by
  unfold mvd
  rw[if_neg (by omega),if_pos hr,hQ]
 obtain⟨m,hm⟩:∃m:Nat,(m:Int)=M:=⟨M.toNat,by omega⟩
 obtain⟨z,hz⟩:∃z,((Lib.ctz 64 m:Nat):Int)=z:=⟨_,rfl⟩
 have m0:m≠0:=by omega
 have m1:m < 18446744073709551616:=by omega
 have hc:¬z < k:=by
  have h1:=ctz_dvd (n:=n-64) m0 m1
  have h2:m%2^(n-64)=0↔M%2^(n-64)=0:=by
   rw[<-hm]
   constructor
   ·intro c
    have:((m%2^(n-64):Nat):Int)=0:=by rw[c];rfl
    rw[<-this]
    push_cast
    rfl
   ·intro c
    have:((m%2^(n-64):Nat):Int)=0:=by
     rw[<-c]
     push_cast
     rfl
    omega
  have h3:n-64<=Lib.ctz 64 m↔M%2^(n-64)=0:=h1.trans h2
  have h4:=h3.2 hr
  omega
 have HSH:Hid (Op.shift .shr .u64 M .i64 k=pure (.int .u64 Q)):=ie (shr64_any (by omega) hM (by omega) (by rw[hkn];exact hQ))
 have HQ:Hid (M/2^k.toNat=Q):=ie (by rw[hkn];exact hQ)
 have HX:=ie (show IntKind.i64.wrap (E+N)=X by rw[hX];exact IntWalk.i64_in _ (by omega))
 have HK:=ie (show IntKind.i64.wrap (N-64)=k by rw[hk];exact IntWalk.i64_in _ (by omega))
 have HM:=ie hm;have HZ:=ie hz;have HV:=ie hV;have HO:=ie (or_one (Q:=Q) v1 (by omega))
 have m2:¬N<=64:=by omega
 obtain⟨o,ho⟩:∃o,Q/2*2+1=o:=⟨_,rfl⟩;rw[ho]at HO
 have ob:0<=o/\o < 18446744073709551616:=by omega
 have HOO:=ie ho;clear hQ hX hN hm hz hV hr ho hkn hk
 go_enter Tryz.func229,Tryz.ntmps229
 go_upto_region 1 with (fail)
 generalize hW1:(w.alloc _).alloc _=w1 at *;obtain⟨X2,XR,HB⟩:=Bo.en2 hW1;replace hT:=hT.below HB.out;clear hW1;have xX2:=X2.cell;have hx:=HX.out
 go_upto_region 2 with (fail)
 clear hx;clear xX2;have nX5X2:=X2.lt;have nX5XR:=XR.lt;generalize hWn:w1.alloc _=w2 at *;obtain⟨X5,BW⟩:=Bo.nw hWn;clear hWn;replace X2:=X2.b BW;replace XR:=XR.b BW;replace hT:=hT.b BW;replace HB:=Hqb HB BW;clear BW;have xX2:=X2.cell;have xX5:=X5.cell;have zX50:=X5.frozen;have hkk:=HK.out
 have hsh:=HSH.out;have hq:=HQ.out
 go_upto_region 7 with (fail)
 clear hkk hsh hq;clear xX2 xX5 zX50
 have SX:StN w2 (World.setCell w2 ⟨w1.heap.size,2,none⟩ (.int .u64 Q)) _ _ #[.bool s,.int .u64 0,.int .u64 Q,.int .i64 X] _:=StN.at4 X5 2 (.int .u64 Q)
 replace X2:=X2.s SX;replace XR:=XR.s SX;replace hT:=hT.s SX;replace HB:=Hqs HB SX (by omega);replace X5:=SX.box;clear SX;generalize World.setCell w2 ⟨w1.heap.size,2,none⟩ (.int .u64 Q)=w3 at *;have xX2:=X2.cell
 go_wp2_with fail
 refine(aTz hT m0 m1 HM.out HZ.out).mono ?_;rintro ee w4 ⟨rfl,B⟩;clear xX2;replace XR:=XR.b B;replace X5:=X5.b B;replace HB:=Hqb HB B;clear B;have xXR:=XR.cell;have zXR0:=XR.frozen;have xX5:=X5.cell;go_wp2;clear xXR zXR0 xX5;have SX:=StN.mk4 XR (.bool s) (.int .u64 0) (.int .u64 Q) (.int .i64 X)
 exact bq (v:= .agg #[.bool s,.int .u64 0,.int .u64 Q,.int .i64 X]) (by simp[results,Tryz.results229,go_sem,SX.box.cell]) rfl ⟨0,Q,rfl,⟨by decide,by decide,v1,by omega,by rw[HV.out];omega⟩,(SX.below HB.out (by omega))⟩
theorem moved_odd{w:World}{s:Bool}{M E N X:Int}{n:Nat}(hT:Tb w)(h0:9223372036854775808<=M)(hM:LQ M)(hN:(n:Int)=N)(hX:E+N=X)(b1: -2000000<=E)(b2:E<=2000000)(n1:1<=n)(n2:64 < n)(n3:n<=4000000)(hr:M%2^(n-64)≠0):Calls Tryz.prog 229 #[VQ 1 s M E,.int .i64 N] w (PMv w s (mvd M n) X):=by
 delta VQ
 obtain⟨v1,v2⟩:=div_le_self (show 0<=M by omega) (p2pos (n-64))
 obtain⟨Q,hQ⟩:∃Q,M/2^(n-64)=Q:=⟨_,rfl⟩;obtain⟨k,hk⟩:∃k,N-64=k:=⟨_,rfl⟩
 have hkn:k.toNat=n-64:=by omega
 have k1:1<=k:=by omega
 rw[hQ]at v1 v2
 have hV:mvd M n=Q/2*2+1:=by
  unfold mvd
  rw[if_neg (by omega),if_neg hr,hQ]
 obtain⟨m,hm⟩:∃m:Nat,(m:Int)=M:=⟨M.toNat,by omega⟩
 obtain⟨z,hz⟩:∃z,((Lib.ctz 64 m:Nat):Int)=z:=⟨_,rfl⟩
 have m0:m≠0:=by omega
 have m1:m < 18446744073709551616:=by omega
 have hc:z < k:=by
  have h1:=ctz_dvd (n:=n-64) m0 m1
  have h2:m%2^(n-64)=0↔M%2^(n-64)=0:=by
   rw[<-hm]
   constructor
   ·intro c
    have:((m%2^(n-64):Nat):Int)=0:=by rw[c];rfl
    rw[<-this]
    push_cast
    rfl
   ·intro c
    have:((m%2^(n-64):Nat):Int)=0:=by
     rw[<-c]
     push_cast
     rfl
    omega
  have h3:n-64<=Lib.ctz 64 m↔M%2^(n-64)=0:=h1.trans h2
  have h4:¬(n-64<=Lib.ctz 64 m):=fun c=>hr (h3.1 c)
  omega
 have HSH:Hid (Op.shift .shr .u64 M .i64 k=pure (.int .u64 Q)):=ie (shr64_any (by omega) hM (by omega) (by rw[hkn];exact hQ))
 have HQ:Hid (M/2^k.toNat=Q):=ie (by rw[hkn];exact hQ)
 have HX:=ie (show IntKind.i64.wrap (E+N)=X by rw[hX];exact IntWalk.i64_in _ (by omega))
 have HK:=ie (show IntKind.i64.wrap (N-64)=k by rw[hk];exact IntWalk.i64_in _ (by omega))
 have HM:=ie hm;have HZ:=ie hz;have HV:=ie hV;have HO:=ie (or_one (Q:=Q) v1 (by omega))
 have m2:¬N<=64:=by omega
 obtain⟨o,ho⟩:∃o,Q/2*2+1=o:=⟨_,rfl⟩;rw[ho]at HO
 have ob:0<=o/\o < 18446744073709551616:=by omega
 have HOO:=ie ho;clear hQ hX hN hm hz hV hr ho hkn hk
 go_enter Tryz.func229,Tryz.ntmps229
 go_upto_region 1 with (fail)
 generalize hW1:(w.alloc _).alloc _=w1 at *;obtain⟨X2,XR,HB⟩:=Bo.en2 hW1;replace hT:=hT.below HB.out;clear hW1;have xX2:=X2.cell;have hx:=HX.out
 go_upto_region 2 with (fail)
 clear hx;clear xX2;have nX5X2:=X2.lt;have nX5XR:=XR.lt;generalize hWn:w1.alloc _=w2 at *;obtain⟨X5,BW⟩:=Bo.nw hWn;clear hWn;replace X2:=X2.b BW;replace XR:=XR.b BW;replace hT:=hT.b BW;replace HB:=Hqb HB BW;clear BW;have xX2:=X2.cell;have xX5:=X5.cell;have zX50:=X5.frozen;have hkk:=HK.out
 have hsh:=HSH.out;have hq:=HQ.out
 go_upto_region 7 with (fail)
 clear hkk hsh hq;clear xX2 xX5 zX50
 have SX:StN w2 (World.setCell w2 ⟨w1.heap.size,2,none⟩ (.int .u64 Q)) _ _ #[.bool s,.int .u64 0,.int .u64 Q,.int .i64 X] _:=StN.at4 X5 2 (.int .u64 Q)
 replace X2:=X2.s SX;replace XR:=XR.s SX;replace hT:=hT.s SX;replace HB:=Hqs HB SX (by omega);replace X5:=SX.box;clear SX;generalize World.setCell w2 ⟨w1.heap.size,2,none⟩ (.int .u64 Q)=w3 at *;have xX2:=X2.cell
 go_wp2_with fail
 refine(aTz hT m0 m1 HM.out HZ.out).mono ?_;rintro ee w4 ⟨rfl,B⟩;clear xX2;replace XR:=XR.b B;replace X5:=X5.b B;replace HB:=Hqb HB B;clear B;have xX5:=X5.cell;have zX50:=X5.frozen;have ho:=HO.out
 go_upto_region 9 with (fail)
 clear ho;clear xX5 zX50
 have SX:StN w4 (World.setCell w4 ⟨w1.heap.size,2,none⟩ (.int .u64 o)) _ _ #[.bool s,.int .u64 0,.int .u64 o,.int .i64 X] _:=StN.at4 X5 2 (.int .u64 o)
 replace XR:=XR.s SX;replace HB:=Hqs HB SX (by omega);replace X5:=SX.box;clear SX;generalize World.setCell w4 ⟨w1.heap.size,2,none⟩ (.int .u64 o)=w5 at *;have xXR:=XR.cell;have zXR0:=XR.frozen;have xX5:=X5.cell;go_wp2;clear xXR zXR0 xX5;have SX:=StN.mk4 XR (.bool s) (.int .u64 0) (.int .u64 o) (.int .i64 X)
 exact bq (v:= .agg #[.bool s,.int .u64 0,.int .u64 o,.int .i64 X]) (by simp[results,Tryz.results229,go_sem,SX.box.cell]) rfl ⟨0,o,rfl,⟨by decide,by decide,ob.1,ob.2,by rw[HV.out,HOO.out];omega⟩,(SX.below HB.out (by omega))⟩
theorem aMoved{w:World}{s:Bool}{M E N X:Int}{n:Nat}(hT:Tb w)(h0:9223372036854775808<=M)(hM:LQ M)(hN:(n:Int)=N)(hX:E+N=X)(b1: -2000000<=E)(b2:E<=2000000)(n1:1<=n)(n3:n<=4000000):Calls Tryz.prog 229 #[VQ 1 s M E,.int .i64 N] w (PMv w s (mvd M n) X):=by
 delta VQ
 by_cases n2:n<=64
 ·exact moved_low hT h0 hM hN hX b1 b2 n1 n2
 ·by_cases hr:M%2^(n-64)=0
  ·exact moved_even hT h0 hM hN hX b1 b2 n1 (by omega) n3 hr
  ·exact moved_odd hT h0 hM hN hX b1 b2 n1 (by omega) n3 hr
theorem order_lt{w:World}{s1 s2:Bool}{M1 M2 E1 E2:Int}(h:E1 < E2):Calls Tryz.prog 228 #[VQ 1 s1 M1 E1,VQ 1 s2 M2 E2] w fun e w'=>e= .returned (.tuple #[.agg #[.int .i64 1,.bool s2,.int .u64 M2,.int .i64 E2],.agg #[.int .i64 1,.bool s1,.int .u64 M1,.int .i64 E1]])/\Below w.heap.size w w':=by
 delta VQ
 go_enter Tryz.func228,Tryz.ntmps228
 go_upto_region 1 with (fail)
 generalize hW1:(((w.alloc _).alloc _).alloc _).alloc _=w1 at *;obtain⟨X2,X3,X4,X5,HB⟩:=Bo.en4 hW1;clear hW1;have xX2:=X2.cell;have xX3:=X3.cell
 go_upto_region 2 with (fail)
 clear xX2 xX3;refine Jo.rl (w.heap.size+1+1) #[.int .i64 1,.bool s2,.int .u64 M2,.int .i64 E2] 24 [0,1,2] [some 25,some 26,none,none] [[],[],[0],[]] 4 1 [Jo.LFact.eq (.agg #[.int .i64 1,.bool s2,.int .u64 M2,.int .i64 E2]),Jo.LFact.eq (.agg #[.int .i64 1,.bool s1,.int .u64 M1,.int .i64 E1]),Jo.LFact.done,Jo.LFact.any] (by kernel_rfl) (by kernel_rfl) (by decide) rfl ?_ ?_
 ·refine Jo.lm rfl ?_ ?_
  ·rintro wj hJ K hK;simp only[Jo.z]at hK|-;replace X3:=X3.off (by omega) hJ;have xX3:=X3.cell;go_simp;exact hK.out _ _ rfl (Jo.Off.refl _ _ _ _)
  refine Jo.lm rfl ?_ ?_
  ·rintro wj hJ K hK;simp only[Jo.z]at hK|-;replace X2:=X2.off (by omega) hJ;have xX2:=X2.cell;go_simp;exact hK.out _ _ rfl (Jo.Off.refl _ _ _ _)
  refine Jo.lm rfl ?_ ?_
  ·rintro wj hJ _ rfl K hK;simp only[Jo.z]at hK|-
   obtain⟨v0,v1,v2,v3,XO⟩:∃v0 v1 v2 v3,Bo wj (w.heap.size+1+1) #[v0,v1,v2,v3] 24:=by
    rcases hJ.own with e | e
    ·exact⟨_,_,_,_,X4.keep e⟩
    ·exact⟨_,_,_,_,e⟩
   have y0:=XO.a 0 (v0) rfl;have u0:=XO.frozen 0;have y1:=XO.a 1 (v1) rfl;have u1:=XO.frozen 1;have y2:=XO.a 2 (v2) rfl;have u2:=XO.frozen 2;have y3:=XO.a 3 (v3) rfl;have u3:=XO.frozen 3;go_simp;have SX:=StN.t4 XO 1 s2 M2 E2;exact hK.out undef _ SX.box (Jo.Off.of_stn SX)
  exact jo
 rintro w2 hJ _ rfl _ rfl u2 d2 -;simp only[Jo.z];replace HB:=ie (hJ.below HB.out (by omega) X4.lt);replace X5:=X5.off (by omega) hJ
 replace X4:Bo w2 (w.heap.size+1+1) #[.int .i64 1,.bool s2,.int .u64 M2,.int .i64 E2] 24:=d2
 have xX5:=X5.cell;have zX50:=X5.frozen
 refine jn 3 fun K hK=>?_
 go_simp;refine hK.out _ _ ?_;clear hK K xX5 zX50;generalize hS:(((w2.setCell _ _).setCell _ _).setCell _ _).setCell _ _=w3 at *;have SX:=StN.of4 X5 hS;replace X4:=X4.s SX;replace HB:=Hqs HB SX (by omega);replace X5:=SX.box;clear SX hS;refine jd ?_;go_wp2;exact bq (v:= .tuple #[.agg #[.int .i64 1,.bool s2,.int .u64 M2,.int .i64 E2],.agg #[.int .i64 1,.bool s1,.int .u64 M1,.int .i64 E1]]) (by simp[results,Tryz.results228,go_sem,X4.cell,X5.cell]) rfl ⟨rfl,HB.out⟩
theorem order_eqlt{w:World}{s1 s2:Bool}{M1 M2 E1 E2:Int}(h:E1=E2)(hm:M1 < M2):Calls Tryz.prog 228 #[VQ 1 s1 M1 E1,VQ 1 s2 M2 E2] w fun e w'=>e= .returned (.tuple #[.agg #[.int .i64 1,.bool s2,.int .u64 M2,.int .i64 E2],.agg #[.int .i64 1,.bool s1,.int .u64 M1,.int .i64 E1]])/\Below w.heap.size w w':=by
 delta VQ
 subst h
 have h1:¬E1 < E1:=by omega
 go_enter Tryz.func228,Tryz.ntmps228
 go_upto_region 1 with (fail)
 generalize hW1:(((w.alloc _).alloc _).alloc _).alloc _=w1 at *;obtain⟨X2,X3,X4,X5,HB⟩:=Bo.en4 hW1;clear hW1;have xX2:=X2.cell;have xX3:=X3.cell
 go_upto_region 2 with (fail)
 clear xX2 xX3;refine Jo.rl (w.heap.size+1+1) #[.int .i64 1,.bool s2,.int .u64 M2,.int .i64 E1] 24 [0,1,2] [some 25,some 26,none,none] [[],[],[0],[]] 4 1 [Jo.LFact.eq (.agg #[.int .i64 1,.bool s2,.int .u64 M2,.int .i64 E1]),Jo.LFact.eq (.agg #[.int .i64 1,.bool s1,.int .u64 M1,.int .i64 E1]),Jo.LFact.done,Jo.LFact.any] (by kernel_rfl) (by kernel_rfl) (by decide) rfl ?_ ?_
 ·refine Jo.lm rfl ?_ ?_
  ·rintro wj hJ K hK;simp only[Jo.z]at hK|-;replace X3:=X3.off (by omega) hJ;have xX3:=X3.cell;go_simp;exact hK.out _ _ rfl (Jo.Off.refl _ _ _ _)
  refine Jo.lm rfl ?_ ?_
  ·rintro wj hJ K hK;simp only[Jo.z]at hK|-;replace X2:=X2.off (by omega) hJ;have xX2:=X2.cell;go_simp;exact hK.out _ _ rfl (Jo.Off.refl _ _ _ _)
  refine Jo.lm rfl ?_ ?_
  ·rintro wj hJ _ rfl K hK;simp only[Jo.z]at hK|-
   obtain⟨v0,v1,v2,v3,XO⟩:∃v0 v1 v2 v3,Bo wj (w.heap.size+1+1) #[v0,v1,v2,v3] 24:=by
    rcases hJ.own with e | e
    ·exact⟨_,_,_,_,X4.keep e⟩
    ·exact⟨_,_,_,_,e⟩
   have y0:=XO.a 0 (v0) rfl;have u0:=XO.frozen 0;have y1:=XO.a 1 (v1) rfl;have u1:=XO.frozen 1;have y2:=XO.a 2 (v2) rfl;have u2:=XO.frozen 2;have y3:=XO.a 3 (v3) rfl;have u3:=XO.frozen 3;go_simp;have SX:=StN.t4 XO 1 s2 M2 E1;exact hK.out undef _ SX.box (Jo.Off.of_stn SX)
  exact jo
 rintro w2 hJ _ rfl _ rfl u2 d2 -;simp only[Jo.z];replace HB:=ie (hJ.below HB.out (by omega) X4.lt);replace X5:=X5.off (by omega) hJ
 replace X4:Bo w2 (w.heap.size+1+1) #[.int .i64 1,.bool s2,.int .u64 M2,.int .i64 E1] 24:=d2
 have xX5:=X5.cell;have zX50:=X5.frozen
 refine jn 3 fun K hK=>?_
 go_simp;refine hK.out _ _ ?_;clear hK K xX5 zX50;generalize hS:(((w2.setCell _ _).setCell _ _).setCell _ _).setCell _ _=w3 at *;have SX:=StN.of4 X5 hS;replace X4:=X4.s SX;replace HB:=Hqs HB SX (by omega);replace X5:=SX.box;clear SX hS;refine jd ?_;go_wp2;exact bq (v:= .tuple #[.agg #[.int .i64 1,.bool s2,.int .u64 M2,.int .i64 E1],.agg #[.int .i64 1,.bool s1,.int .u64 M1,.int .i64 E1]]) (by simp[results,Tryz.results228,go_sem,X4.cell,X5.cell]) rfl ⟨rfl,HB.out⟩
theorem order_eqge{w:World}{s1 s2:Bool}{M1 M2 E1 E2:Int}(h:E1=E2)(hm:¬M1 < M2):Calls Tryz.prog 228 #[VQ 1 s1 M1 E1,VQ 1 s2 M2 E2] w fun e w'=>e= .returned (.tuple #[.agg #[.int .i64 1,.bool s1,.int .u64 M1,.int .i64 E1],.agg #[.int .i64 1,.bool s2,.int .u64 M2,.int .i64 E2]])/\Below w.heap.size w w':=by
 delta VQ
 subst h
 have h1:¬E1 < E1:=by omega
 go_enter Tryz.func228,Tryz.ntmps228
 go_upto_region 1 with (fail)
 generalize hW1:(((w.alloc _).alloc _).alloc _).alloc _=w1 at *;obtain⟨X2,X3,X4,X5,HB⟩:=Bo.en4 hW1;clear hW1;have xX2:=X2.cell;have xX3:=X3.cell
 go_upto_region 3 with (fail)
 clear xX2 xX3;refine Jo.rl (w.heap.size+1+1) #[.int .i64 1,.bool s1,.int .u64 M1,.int .i64 E1] 24 [0,1,2] [some 27,some 28,none,none] [[],[],[0],[]] 4 1 [Jo.LFact.eq (.agg #[.int .i64 1,.bool s1,.int .u64 M1,.int .i64 E1]),Jo.LFact.eq (.agg #[.int .i64 1,.bool s2,.int .u64 M2,.int .i64 E1]),Jo.LFact.done,Jo.LFact.any] (by kernel_rfl) (by kernel_rfl) (by decide) rfl ?_ ?_
 ·refine Jo.lm rfl ?_ ?_
  ·rintro wj hJ K hK;simp only[Jo.z]at hK|-;replace X2:=X2.off (by omega) hJ;have xX2:=X2.cell;go_simp;exact hK.out _ _ rfl (Jo.Off.refl _ _ _ _)
  refine Jo.lm rfl ?_ ?_
  ·rintro wj hJ K hK;simp only[Jo.z]at hK|-;replace X3:=X3.off (by omega) hJ;have xX3:=X3.cell;go_simp;exact hK.out _ _ rfl (Jo.Off.refl _ _ _ _)
  refine Jo.lm rfl ?_ ?_
  ·rintro wj hJ _ rfl K hK;simp only[Jo.z]at hK|-
   obtain⟨v0,v1,v2,v3,XO⟩:∃v0 v1 v2 v3,Bo wj (w.heap.size+1+1) #[v0,v1,v2,v3] 24:=by
    rcases hJ.own with e | e
    ·exact⟨_,_,_,_,X4.keep e⟩
    ·exact⟨_,_,_,_,e⟩
   have y0:=XO.a 0 (v0) rfl;have u0:=XO.frozen 0;have y1:=XO.a 1 (v1) rfl;have u1:=XO.frozen 1;have y2:=XO.a 2 (v2) rfl;have u2:=XO.frozen 2;have y3:=XO.a 3 (v3) rfl;have u3:=XO.frozen 3;go_simp;have SX:=StN.t4 XO 1 s1 M1 E1;exact hK.out undef _ SX.box (Jo.Off.of_stn SX)
  exact jo
 rintro w2 hJ _ rfl _ rfl u2 d2 -;simp only[Jo.z];replace HB:=ie (hJ.below HB.out (by omega) X4.lt);replace X5:=X5.off (by omega) hJ
 replace X4:Bo w2 (w.heap.size+1+1) #[.int .i64 1,.bool s1,.int .u64 M1,.int .i64 E1] 24:=d2
 have xX5:=X5.cell;have zX50:=X5.frozen
 refine jn 3 fun K hK=>?_
 go_simp;refine hK.out _ _ ?_;clear hK K xX5 zX50;generalize hS:(((w2.setCell _ _).setCell _ _).setCell _ _).setCell _ _=w3 at *;have SX:=StN.of4 X5 hS;replace X4:=X4.s SX;replace HB:=Hqs HB SX (by omega);replace X5:=SX.box;clear SX hS;refine jd ?_;go_wp2;exact bq (v:= .tuple #[.agg #[.int .i64 1,.bool s1,.int .u64 M1,.int .i64 E1],.agg #[.int .i64 1,.bool s2,.int .u64 M2,.int .i64 E1]]) (by simp[results,Tryz.results228,go_sem,X4.cell,X5.cell]) rfl ⟨rfl,HB.out⟩
theorem order_gt{w:World}{s1 s2:Bool}{M1 M2 E1 E2:Int}(h:E2 < E1):Calls Tryz.prog 228 #[VQ 1 s1 M1 E1,VQ 1 s2 M2 E2] w fun e w'=>e= .returned (.tuple #[.agg #[.int .i64 1,.bool s1,.int .u64 M1,.int .i64 E1],.agg #[.int .i64 1,.bool s2,.int .u64 M2,.int .i64 E2]])/\Below w.heap.size w w':=by
 delta VQ
 have h1:¬E1 < E2:=by omega
 have h2:(E1==E2)=false:=by
  have:E1≠E2:=by omega
  simpa using this
 go_enter Tryz.func228,Tryz.ntmps228
 go_upto_region 1 with (fail)
 generalize hW1:(((w.alloc _).alloc _).alloc _).alloc _=w1 at *;obtain⟨X2,X3,X4,X5,HB⟩:=Bo.en4 hW1;clear hW1;have xX2:=X2.cell;have xX3:=X3.cell
 go_upto_region 3 with (fail)
 clear xX2 xX3;refine Jo.rl (w.heap.size+1+1) #[.int .i64 1,.bool s1,.int .u64 M1,.int .i64 E1] 24 [0,1,2] [some 27,some 28,none,none] [[],[],[0],[]] 4 1 [Jo.LFact.eq (.agg #[.int .i64 1,.bool s1,.int .u64 M1,.int .i64 E1]),Jo.LFact.eq (.agg #[.int .i64 1,.bool s2,.int .u64 M2,.int .i64 E2]),Jo.LFact.done,Jo.LFact.any] (by kernel_rfl) (by kernel_rfl) (by decide) rfl ?_ ?_
 ·refine Jo.lm rfl ?_ ?_
  ·rintro wj hJ K hK;simp only[Jo.z]at hK|-;replace X2:=X2.off (by omega) hJ;have xX2:=X2.cell;go_simp;exact hK.out _ _ rfl (Jo.Off.refl _ _ _ _)
  refine Jo.lm rfl ?_ ?_
  ·rintro wj hJ K hK;simp only[Jo.z]at hK|-;replace X3:=X3.off (by omega) hJ;have xX3:=X3.cell;go_simp;exact hK.out _ _ rfl (Jo.Off.refl _ _ _ _)
  refine Jo.lm rfl ?_ ?_
  ·rintro wj hJ _ rfl K hK;simp only[Jo.z]at hK|-
   obtain⟨v0,v1,v2,v3,XO⟩:∃v0 v1 v2 v3,Bo wj (w.heap.size+1+1) #[v0,v1,v2,v3] 24:=by
    rcases hJ.own with e | e
    ·exact⟨_,_,_,_,X4.keep e⟩
    ·exact⟨_,_,_,_,e⟩
   have y0:=XO.a 0 (v0) rfl;have u0:=XO.frozen 0;have y1:=XO.a 1 (v1) rfl;have u1:=XO.frozen 1;have y2:=XO.a 2 (v2) rfl;have u2:=XO.frozen 2;have y3:=XO.a 3 (v3) rfl;have u3:=XO.frozen 3;go_simp;have SX:=StN.t4 XO 1 s1 M1 E1;exact hK.out undef _ SX.box (Jo.Off.of_stn SX)
  exact jo
 rintro w2 hJ _ rfl _ rfl u2 d2 -;simp only[Jo.z];replace HB:=ie (hJ.below HB.out (by omega) X4.lt);replace X5:=X5.off (by omega) hJ
 replace X4:Bo w2 (w.heap.size+1+1) #[.int .i64 1,.bool s1,.int .u64 M1,.int .i64 E1] 24:=d2
 have xX5:=X5.cell;have zX50:=X5.frozen
 refine jn 3 fun K hK=>?_
 go_simp;refine hK.out _ _ ?_;clear hK K xX5 zX50;generalize hS:(((w2.setCell _ _).setCell _ _).setCell _ _).setCell _ _=w3 at *;have SX:=StN.of4 X5 hS;replace X4:=X4.s SX;replace HB:=Hqs HB SX (by omega);replace X5:=SX.box;clear SX hS;refine jd ?_;go_wp2;exact bq (v:= .tuple #[.agg #[.int .i64 1,.bool s1,.int .u64 M1,.int .i64 E1],.agg #[.int .i64 1,.bool s2,.int .u64 M2,.int .i64 E2]]) (by simp[results,Tryz.results228,go_sem,X4.cell,X5.cell]) rfl ⟨rfl,HB.out⟩
theorem wd_of{s:Bool}{H L e V:Int}{f:Bool->Int}(hH:0<=H)(hH2:LQ H)(hL:0<=L)(hL2:LQ L)(hV:H*18446744073709551616+L=V)(e1: -2900000<=e)(e2:e<=2900000)(h:∀up,rnd up (mk (sgi s V) (e-64)).1 (mk (sgi s V) (e-64)).2=f up):Wd s H L e f:=by
 obtain⟨a,rfl⟩:=Int.eq_ofNat_of_zero_le hH;obtain⟨b,rfl⟩:=Int.eq_ofNat_of_zero_le hL
 refine⟨a,b,by omega,by omega,rfl,rfl,e1,e2,fun up=>?_⟩
 have e:((a*18446744073709551616+b:Nat):Int)=V:=by omega
 rw[e];exact h up
theorem add_words{H1 L1 H2 L2 V1 V2:Int}(h1:0<=H1/\H1 < 18446744073709551616/\0<=L1/\L1 < 18446744073709551616/\H1*18446744073709551616+L1=V1)(h2:0<=H2/\H2 < 18446744073709551616/\0<=L2/\L2 < 18446744073709551616/\H2*18446744073709551616+L2=V2)(h:V1+V2 < 340282366920938463463374607431768211456):
  ∃S c T d,(L1+L2+0)%18446744073709551616=S/\(L1+L2+0) /18446744073709551616=c/\(H1+H2+c)%18446744073709551616=T/\(H1+H2+c) /18446744073709551616=d/\0<=c/\c<=1/\0<=S/\S < 18446744073709551616/\0<=T/\T < 18446744073709551616/\T*18446744073709551616+S=V1+V2:=by
 refine⟨_,_,_,_,rfl,rfl,rfl,rfl,?_⟩
 omega
theorem sub_words{H1 L1 H2 L2 V1 V2:Int}(h1:0<=H1/\H1 < 18446744073709551616/\0<=L1/\L1 < 18446744073709551616/\H1*18446744073709551616+L1=V1)(h2:0<=H2/\H2 < 18446744073709551616/\0<=L2/\L2 < 18446744073709551616/\H2*18446744073709551616+L2=V2)(h:0<=V1-V2):
  ∃S c T d,(L1-L2-0)%18446744073709551616=S/\(if L1 < L2+0 then (1:Int)else 0)=c/\(H1-H2-c)%18446744073709551616=T/\(if H1 < H2+c then (1:Int)else 0)=d/\0<=c/\c<=1/\0<=S/\S < 18446744073709551616/\0<=T/\T < 18446744073709551616/\T*18446744073709551616+S=V1-V2:=by
 by_cases q:L1 < L2+0
 ·exact⟨_,1,_,_,rfl,if_pos q,rfl,rfl,by omega,by omega,by omega,by omega,by omega,by omega,by omega⟩
 ·exact⟨_,0,_,_,rfl,if_neg q,rfl,rfl,by omega,by omega,by omega,by omega,by omega,by omega,by omega⟩
theorem sum_lt{w:World}{s1 s2:Bool}{M1 M2 E1 E2 x y:Int}(hT:Tb w)(q1:Fq 1 s1 M1 E1 x)(q2:Fq 1 s2 M2 E2 y)(h:E1 < E2):Calls Tryz.prog 178 #[VQ 1 s1 M1 E1,VQ 1 s2 M2 E2] w (PW6 w fun up=>addp up x y):=by
 delta VQ
 obtain⟨a1,a2,a3,a4,_⟩:=fq_vr q1;obtain⟨b1,b2,b3,b4,_⟩:=fq_vr q2;have HO:=ie (h);obtain⟨n,hn⟩:∃n:Nat,(n:Int)=E2-E1+1:=⟨(E2-E1+1).toNat,by omega⟩
 have hsw:∀(S:Int) up,S=M2*9223372036854775808+sgi (s2 !=s1) (mvd M1 n)->0<=S/\S < 340282366920938463463374607431768211456/\rnd up (mk (sgi s2 S) (E2+1-64)).1 (mk (sgi s2 S) (E2+1-64)).2=addp up x y:=fun S up hS=>by
  obtain⟨u1,u2,u3⟩:=sum_wide up q2 q1 (by omega) hn hS;refine⟨u1,u2,?_⟩
  rw[show E2+1-64=E2-63 by omega,u3]
  exact addp_comm up
 have HSW:=ie hsw;obtain⟨N,hN⟩:∃N,(n:Int)=N:=⟨_,rfl⟩;obtain⟨D,hD⟩:∃D,E2-E1=D:=⟨_,rfl⟩
 have n1:1<=n:=by omega
 have n3:n<=4000000:=by omega
 have HN:=ie hN
 have HD:=ie (show IntKind.i64.wrap (E2-E1)=D by rw[hD];exact IntWalk.i64_in _ (by omega))
 have HD2:=ie (show IntKind.i64.wrap (D+1)=N by rw[show D+1=N by omega];exact IntWalk.i64_in _ (by omega))
 obtain⟨Y,hY⟩:∃Y,E1+N=Y:=⟨_,rfl⟩;have HY:=ie hY;obtain⟨Z,hZ⟩:∃Z,E2+1=Z:=⟨_,rfl⟩;have HZ:=ie hZ
 have z1: -2900000<=Z:=by omega
 have z2:Z<=2900000:=by omega
 have v1:mvd M2 1=M2*9223372036854775808:=by
  unfold mvd
  rw[if_pos (by decide)]
  rfl
 have HV1:=ie v1
 have g1:9223372036854775808<=M2:=by omega
 have g2:M2 < 18446744073709551616:=by omega
 have g3: -2000000<=E2:=by omega
 have g4:E2<=2000000:=by omega
 have k1:9223372036854775808<=M1:=by omega
 have k2:M1 < 18446744073709551616:=by omega
 have k3: -2000000<=E1:=by omega
 have k4:E1<=2000000:=by omega
 clear hn hN hD hY hZ v1 hsw h q1 q2 a1 a2 a3 a4 b1 b2 b3 b4
 go_enter Tryz.func178,Tryz.ntmps178
 go_upto_region 1 with (fail)
 generalize hW1:((w.alloc _).alloc _).alloc _=w1 at *;obtain⟨X2,X3,XR,HB⟩:=Bo.en3 hW1;replace hT:=hT.below HB.out;clear hW1;have xX2:=X2.cell;have xX3:=X3.cell
 go_wp2_with fail
 refine(order_lt HO.out).mono ?_;rintro ee w2 ⟨rfl,B⟩;clear xX2 xX3;replace XR:=XR.b B;replace hT:=hT.b B;replace HB:=Hqb HB B;clear B
 go_upto_region 2 with (fail)
 clear X2 X3
 have hsz:(World.alloc w2 (.cells #[.int .i64 1,.bool s2,.int .u64 M2,.int .i64 E2] 24)).heap.size=w2.heap.size+1:=by simp
 have nX5XR:=XR.lt;have BX:=bel1 w2 (.cells #[.int .i64 1,.bool s2,.int .u64 M2,.int .i64 E2] 24);replace XR:=XR.b BX;replace hT:=hT.b BX;replace HB:=ie (bt HB.out BX);have X5:=Bo.new w2 #[.int .i64 1,.bool s2,.int .u64 M2,.int .i64 E2] 24
 generalize hWn:World.alloc w2 (.cells #[.int .i64 1,.bool s2,.int .u64 M2,.int .i64 E2] 24)=w3 at *;clear hWn;have nX6XR:=XR.lt;have nX6X5:=X5.lt;generalize hWn:w3.alloc _=w4 at *;obtain⟨X6,BW⟩:=Bo.nw hWn;clear hWn;replace XR:=XR.b BW;replace X5:=X5.b BW;replace hT:=hT.b BW;replace HB:=Hqb HB BW;clear BW;rw[hsz]at X6 nX6X5 nX6XR;clear hsz
 have xX5:=X5.cell
 go_wp2_with fail
 refine(aMoved (n:=1) (s:=s2) hT g1 g2 (by rfl) HZ.out g3 g4 (by decide) (by decide)).mono ?_;rintro ee w5 ⟨H1,L1,rfl,p1,B⟩;clear xX5;replace XR:=XR.b B;replace X5:=X5.b B;replace X6:=X6.b B;replace hT:=hT.b B;replace HB:=Hqb HB B;clear B;rw[HV1.out]at p1
 go_upto_region 3 with (fail)
 have nX7XR:=XR.lt;have nX7X5:=X5.lt;have nX7X6:=X6.lt;generalize hWn:w5.alloc _=w6 at *;obtain⟨X7,BW⟩:=Bo.nw hWn;clear hWn;replace XR:=XR.b BW;replace X5:=X5.b BW;replace X6:=X6.b BW;replace hT:=hT.b BW;replace HB:=Hqb HB BW;clear BW;have xX5:=X5.cell;have xX6:=X6.cell;have hd:=HD.out
 have hd2:=HD2.out
 go_wp2_with fail
 refine(aMoved (s:=s1) hT k1 k2 HN.out HY.out k3 k4 n1 n3).mono ?_;rintro ee w7 ⟨H2,L2,rfl,p2,B⟩;clear xX5 xX6;replace XR:=XR.b B;replace X5:=X5.b B;replace X6:=X6.b B;replace X7:=X7.b B;replace HB:=Hqb HB B;clear B;clear hd hd2
 go_upto_region 5 with (fail)
 have nX8XR:=XR.lt;have nX8X5:=X5.lt;have nX8X6:=X6.lt;have nX8X7:=X7.lt;generalize hWn:w7.alloc _=w8 at *;obtain⟨X8,BW⟩:=Bo.nw hWn;clear hWn;replace XR:=XR.b BW;replace X5:=X5.b BW;replace X6:=X6.b BW;replace X7:=X7.b BW;replace HB:=Hqb HB BW;clear BW
 by_cases hs:s2=s1
 ·subst hs
  have hxor:(s2 !=s2)=false:=by cases s2 <;> rfl
  have hswv:=HSW.out (M2*9223372036854775808+mvd M1 n);rw[hxor,wsg_f]at hswv;have hb:=(hswv true rfl).2.1;obtain⟨S,c,T,d,f1,f2,f3,f4,c0,c1,o1,o2,o3,o4,o5⟩:=add_words p1 p2 hb
  have ha1:=fun W:World=>aAdd64 W p1.2.2.1 p2.2.2.1 (by decide) (by decide) f1 f2
  have ha2:=fun W:World=>aAdd64 W p1.1 p2.1 c0 c1 f3 f4
  have OO:=ie (And.intro o5 hswv)
  clear f1 f2 f3 f4 p1 p2 hb hswv o5;have xX5:=X5.cell;have xX6:=X6.cell;have xX7:=X7.cell;have zX70:=X7.frozen;have xX8:=X8.cell
  go_upto_region 7 with (simp only[ha1])
  clear xX5 xX6 xX7 zX70 xX8
  have SX:StN w8 (World.setCell w8 ⟨w5.heap.size,2,none⟩ (.int .u64 S)) _ _ #[.bool s2,.int .u64 H1,.int .u64 S,.int .i64 Z] _:=StN.at4 X7 2 (.int .u64 S)
  replace XR:=XR.s SX;replace X5:=X5.s SX;replace X6:=X6.s SX;replace X8:=X8.s SX;replace HB:=Hqs HB SX (by omega);replace X7:=SX.box;clear SX;generalize World.setCell w8 ⟨w5.heap.size,2,none⟩ (.int .u64 S)=w9 at *;have xX7:=X7.cell;have zX70:=X7.frozen;have xX8:=X8.cell
  go_upto_region 10 with (simp only[ha2])
  clear xX7 zX70 xX8
  have SX:StN w9 (World.setCell w9 ⟨w5.heap.size,1,none⟩ (.int .u64 T)) _ _ #[.bool s2,.int .u64 T,.int .u64 S,.int .i64 Z] _:=StN.at4 X7 1 (.int .u64 T)
  replace XR:=XR.s SX;replace X5:=X5.s SX;replace X6:=X6.s SX;replace X8:=X8.s SX;replace HB:=Hqs HB SX (by omega);replace X7:=SX.box;clear SX;generalize World.setCell w9 ⟨w5.heap.size,1,none⟩ (.int .u64 T)=wA at *;have xXR:=XR.cell;have zXR0:=XR.frozen;have xX7:=X7.cell
  go_wp2;clear xXR zXR0 xX7;have SX:=StN.mk4 XR (.bool s2) (.int .u64 T) (.int .u64 S) (.int .i64 Z)
  exact bq (v:= .agg #[.bool s2,.int .u64 T,.int .u64 S,.int .i64 Z]) (by simp[results,Tryz.results178,go_sem,SX.box.cell]) rfl ⟨_,_,_,_,rfl,wd_of o3 o4 o1 o2 OO.out.1 z1 z2 fun up=>by rw[<-HZ.out];exact(OO.out.2 up (by first | rfl | trivial)).2.2,(SX.below HB.out (by omega))⟩
 ·have hxor:(s2 !=s1)=true:=by cases s2 <;> cases s1 <;> first | rfl | exact absurd rfl hs
  have hne:(s2==s1)=false:=by cases s2 <;> cases s1 <;> first | rfl | exact absurd rfl hs
  have hswv:=HSW.out (M2*9223372036854775808-mvd M1 n);rw[hxor,wsg_t]at hswv;have hb:=(hswv true (by omega)).1;obtain⟨S,c,T,d,f1,f2,f3,f4,c0,c1,o1,o2,o3,o4,o5⟩:=sub_words p1 p2 hb
  have ha1:=fun W:World=>aSub64 W p1.2.2.1 p1.2.2.2.1 p2.2.2.1 p2.2.2.2.1 (by decide) (by decide) f1 f2
  have ha2:=fun W:World=>aSub64 W p1.1 p1.2.1 p2.1 p2.2.1 c0 c1 f3 f4
  have OO:=ie (And.intro o5 hswv)
  clear f1 f2 f3 f4 p1 p2 hb hswv o5;have xX5:=X5.cell;have xX6:=X6.cell;have xX7:=X7.cell;have zX70:=X7.frozen;have xX8:=X8.cell
  go_upto_region 9 with (simp only[ha1])
  clear xX5 xX6 xX7 zX70 xX8
  have SX:StN w8 (World.setCell w8 ⟨w5.heap.size,2,none⟩ (.int .u64 S)) _ _ #[.bool s2,.int .u64 H1,.int .u64 S,.int .i64 Z] _:=StN.at4 X7 2 (.int .u64 S)
  replace XR:=XR.s SX;replace X8:=X8.s SX;replace HB:=Hqs HB SX (by omega);replace X7:=SX.box;clear SX;generalize World.setCell w8 ⟨w5.heap.size,2,none⟩ (.int .u64 S)=w9 at *;have xX7:=X7.cell;have zX70:=X7.frozen;have xX8:=X8.cell
  go_upto_region 10 with (simp only[ha2])
  clear xX7 zX70 xX8
  have SX:StN w9 (World.setCell w9 ⟨w5.heap.size,1,none⟩ (.int .u64 T)) _ _ #[.bool s2,.int .u64 T,.int .u64 S,.int .i64 Z] _:=StN.at4 X7 1 (.int .u64 T)
  replace XR:=XR.s SX;replace HB:=Hqs HB SX (by omega);replace X7:=SX.box;clear SX;generalize World.setCell w9 ⟨w5.heap.size,1,none⟩ (.int .u64 T)=wA at *;have xXR:=XR.cell;have zXR0:=XR.frozen;have xX7:=X7.cell;go_wp2;clear xXR zXR0 xX7;have SX:=StN.mk4 XR (.bool s2) (.int .u64 T) (.int .u64 S) (.int .i64 Z)
  exact bq (v:= .agg #[.bool s2,.int .u64 T,.int .u64 S,.int .i64 Z]) (by simp[results,Tryz.results178,go_sem,SX.box.cell]) rfl ⟨_,_,_,_,rfl,wd_of o3 o4 o1 o2 OO.out.1 z1 z2 fun up=>by rw[<-HZ.out];exact(OO.out.2 up (by omega)).2.2,(SX.below HB.out (by omega))⟩
theorem sum_eqlt{w:World}{s1 s2:Bool}{M1 M2 E1 E2 x y:Int}(hT:Tb w)(q1:Fq 1 s1 M1 E1 x)(q2:Fq 1 s2 M2 E2 y)(h:E1=E2)(hm:M1 < M2):Calls Tryz.prog 178 #[VQ 1 s1 M1 E1,VQ 1 s2 M2 E2] w (PW6 w fun up=>addp up x y):=by
 delta VQ
 obtain⟨a1,a2,a3,a4,_⟩:=fq_vr q1;obtain⟨b1,b2,b3,b4,_⟩:=fq_vr q2
 have HO:=ie (And.intro h hm)
 obtain⟨n,hn⟩:∃n:Nat,(n:Int)=E2-E1+1:=⟨(E2-E1+1).toNat,by omega⟩
 have hsw:∀(S:Int) up,S=M2*9223372036854775808+sgi (s2 !=s1) (mvd M1 n)->0<=S/\S < 340282366920938463463374607431768211456/\rnd up (mk (sgi s2 S) (E2+1-64)).1 (mk (sgi s2 S) (E2+1-64)).2=addp up x y:=fun S up hS=>by
  obtain⟨u1,u2,u3⟩:=sum_wide up q2 q1 (by omega) hn hS;refine⟨u1,u2,?_⟩
  rw[show E2+1-64=E2-63 by omega,u3]
  exact addp_comm up
 have HSW:=ie hsw;obtain⟨N,hN⟩:∃N,(n:Int)=N:=⟨_,rfl⟩;obtain⟨D,hD⟩:∃D,E2-E1=D:=⟨_,rfl⟩
 have n1:1<=n:=by omega
 have n3:n<=4000000:=by omega
 have HN:=ie hN
 have HD:=ie (show IntKind.i64.wrap (E2-E1)=D by rw[hD];exact IntWalk.i64_in _ (by omega))
 have HD2:=ie (show IntKind.i64.wrap (D+1)=N by rw[show D+1=N by omega];exact IntWalk.i64_in _ (by omega))
 obtain⟨Y,hY⟩:∃Y,E1+N=Y:=⟨_,rfl⟩;have HY:=ie hY;obtain⟨Z,hZ⟩:∃Z,E2+1=Z:=⟨_,rfl⟩;have HZ:=ie hZ
 have z1: -2900000<=Z:=by omega
 have z2:Z<=2900000:=by omega
 have v1:mvd M2 1=M2*9223372036854775808:=by
  unfold mvd
  rw[if_pos (by decide)]
  rfl
 have HV1:=ie v1
 have g1:9223372036854775808<=M2:=by omega
 have g2:M2 < 18446744073709551616:=by omega
 have g3: -2000000<=E2:=by omega
 have g4:E2<=2000000:=by omega
 have k1:9223372036854775808<=M1:=by omega
 have k2:M1 < 18446744073709551616:=by omega
 have k3: -2000000<=E1:=by omega
 have k4:E1<=2000000:=by omega
 clear hn hN hD hY hZ v1 hsw h hm q1 q2 a1 a2 a3 a4 b1 b2 b3 b4
 go_enter Tryz.func178,Tryz.ntmps178
 go_upto_region 1 with (fail)
 generalize hW1:((w.alloc _).alloc _).alloc _=w1 at *;obtain⟨X2,X3,XR,HB⟩:=Bo.en3 hW1;replace hT:=hT.below HB.out;clear hW1;have xX2:=X2.cell;have xX3:=X3.cell
 go_wp2_with fail
 refine(order_eqlt HO.out.1 (by have:=HO.out.2;omega)).mono ?_;rintro ee w2 ⟨rfl,B⟩;clear xX2 xX3;replace XR:=XR.b B;replace hT:=hT.b B;replace HB:=Hqb HB B;clear B
 go_upto_region 2 with (fail)
 clear X2 X3
 have hsz:(World.alloc w2 (.cells #[.int .i64 1,.bool s2,.int .u64 M2,.int .i64 E2] 24)).heap.size=w2.heap.size+1:=by simp
 have nX5XR:=XR.lt;have BX:=bel1 w2 (.cells #[.int .i64 1,.bool s2,.int .u64 M2,.int .i64 E2] 24);replace XR:=XR.b BX;replace hT:=hT.b BX;replace HB:=ie (bt HB.out BX);have X5:=Bo.new w2 #[.int .i64 1,.bool s2,.int .u64 M2,.int .i64 E2] 24
 generalize hWn:World.alloc w2 (.cells #[.int .i64 1,.bool s2,.int .u64 M2,.int .i64 E2] 24)=w3 at *;clear hWn;have nX6XR:=XR.lt;have nX6X5:=X5.lt;generalize hWn:w3.alloc _=w4 at *;obtain⟨X6,BW⟩:=Bo.nw hWn;clear hWn;replace XR:=XR.b BW;replace X5:=X5.b BW;replace hT:=hT.b BW;replace HB:=Hqb HB BW;clear BW;rw[hsz]at X6 nX6X5 nX6XR;clear hsz
 have xX5:=X5.cell
 go_wp2_with fail
 refine(aMoved (n:=1) (s:=s2) hT g1 g2 (by rfl) HZ.out g3 g4 (by decide) (by decide)).mono ?_;rintro ee w5 ⟨H1,L1,rfl,p1,B⟩;clear xX5;replace XR:=XR.b B;replace X5:=X5.b B;replace X6:=X6.b B;replace hT:=hT.b B;replace HB:=Hqb HB B;clear B;rw[HV1.out]at p1
 go_upto_region 3 with (fail)
 have nX7XR:=XR.lt;have nX7X5:=X5.lt;have nX7X6:=X6.lt;generalize hWn:w5.alloc _=w6 at *;obtain⟨X7,BW⟩:=Bo.nw hWn;clear hWn;replace XR:=XR.b BW;replace X5:=X5.b BW;replace X6:=X6.b BW;replace hT:=hT.b BW;replace HB:=Hqb HB BW;clear BW;have xX5:=X5.cell;have xX6:=X6.cell;have hd:=HD.out
 have hd2:=HD2.out
 go_wp2_with fail
 refine(aMoved (s:=s1) hT k1 k2 HN.out HY.out k3 k4 n1 n3).mono ?_;rintro ee w7 ⟨H2,L2,rfl,p2,B⟩;clear xX5 xX6;replace XR:=XR.b B;replace X5:=X5.b B;replace X6:=X6.b B;replace X7:=X7.b B;replace HB:=Hqb HB B;clear B;clear hd hd2
 go_upto_region 5 with (fail)
 have nX8XR:=XR.lt;have nX8X5:=X5.lt;have nX8X6:=X6.lt;have nX8X7:=X7.lt;generalize hWn:w7.alloc _=w8 at *;obtain⟨X8,BW⟩:=Bo.nw hWn;clear hWn;replace XR:=XR.b BW;replace X5:=X5.b BW;replace X6:=X6.b BW;replace X7:=X7.b BW;replace HB:=Hqb HB BW;clear BW
 by_cases hs:s2=s1
 ·subst hs
  have hxor:(s2 !=s2)=false:=by cases s2 <;> rfl
  have hswv:=HSW.out (M2*9223372036854775808+mvd M1 n);rw[hxor,wsg_f]at hswv;have hb:=(hswv true rfl).2.1;obtain⟨S,c,T,d,f1,f2,f3,f4,c0,c1,o1,o2,o3,o4,o5⟩:=add_words p1 p2 hb
  have ha1:=fun W:World=>aAdd64 W p1.2.2.1 p2.2.2.1 (by decide) (by decide) f1 f2
  have ha2:=fun W:World=>aAdd64 W p1.1 p2.1 c0 c1 f3 f4
  have OO:=ie (And.intro o5 hswv)
  clear f1 f2 f3 f4 p1 p2 hb hswv o5;have xX5:=X5.cell;have xX6:=X6.cell;have xX7:=X7.cell;have zX70:=X7.frozen;have xX8:=X8.cell
  go_upto_region 7 with (simp only[ha1])
  clear xX5 xX6 xX7 zX70 xX8
  have SX:StN w8 (World.setCell w8 ⟨w5.heap.size,2,none⟩ (.int .u64 S)) _ _ #[.bool s2,.int .u64 H1,.int .u64 S,.int .i64 Z] _:=StN.at4 X7 2 (.int .u64 S)
  replace XR:=XR.s SX;replace X5:=X5.s SX;replace X6:=X6.s SX;replace X8:=X8.s SX;replace HB:=Hqs HB SX (by omega);replace X7:=SX.box;clear SX;generalize World.setCell w8 ⟨w5.heap.size,2,none⟩ (.int .u64 S)=w9 at *;have xX7:=X7.cell;have zX70:=X7.frozen;have xX8:=X8.cell
  go_upto_region 10 with (simp only[ha2])
  clear xX7 zX70 xX8
  have SX:StN w9 (World.setCell w9 ⟨w5.heap.size,1,none⟩ (.int .u64 T)) _ _ #[.bool s2,.int .u64 T,.int .u64 S,.int .i64 Z] _:=StN.at4 X7 1 (.int .u64 T)
  replace XR:=XR.s SX;replace X5:=X5.s SX;replace X6:=X6.s SX;replace X8:=X8.s SX;replace HB:=Hqs HB SX (by omega);replace X7:=SX.box;clear SX;generalize World.setCell w9 ⟨w5.heap.size,1,none⟩ (.int .u64 T)=wA at *;have xXR:=XR.cell;have zXR0:=XR.frozen;have xX7:=X7.cell
  go_wp2;clear xXR zXR0 xX7;have SX:=StN.mk4 XR (.bool s2) (.int .u64 T) (.int .u64 S) (.int .i64 Z)
  exact bq (v:= .agg #[.bool s2,.int .u64 T,.int .u64 S,.int .i64 Z]) (by simp[results,Tryz.results178,go_sem,SX.box.cell]) rfl ⟨_,_,_,_,rfl,wd_of o3 o4 o1 o2 OO.out.1 z1 z2 fun up=>by rw[<-HZ.out];exact(OO.out.2 up (by first | rfl | trivial)).2.2,(SX.below HB.out (by omega))⟩
 ·have hxor:(s2 !=s1)=true:=by cases s2 <;> cases s1 <;> first | rfl | exact absurd rfl hs
  have hne:(s2==s1)=false:=by cases s2 <;> cases s1 <;> first | rfl | exact absurd rfl hs
  have hswv:=HSW.out (M2*9223372036854775808-mvd M1 n);rw[hxor,wsg_t]at hswv;have hb:=(hswv true (by omega)).1;obtain⟨S,c,T,d,f1,f2,f3,f4,c0,c1,o1,o2,o3,o4,o5⟩:=sub_words p1 p2 hb
  have ha1:=fun W:World=>aSub64 W p1.2.2.1 p1.2.2.2.1 p2.2.2.1 p2.2.2.2.1 (by decide) (by decide) f1 f2
  have ha2:=fun W:World=>aSub64 W p1.1 p1.2.1 p2.1 p2.2.1 c0 c1 f3 f4
  have OO:=ie (And.intro o5 hswv)
  clear f1 f2 f3 f4 p1 p2 hb hswv o5;have xX5:=X5.cell;have xX6:=X6.cell;have xX7:=X7.cell;have zX70:=X7.frozen;have xX8:=X8.cell
  go_upto_region 9 with (simp only[ha1])
  clear xX5 xX6 xX7 zX70 xX8
  have SX:StN w8 (World.setCell w8 ⟨w5.heap.size,2,none⟩ (.int .u64 S)) _ _ #[.bool s2,.int .u64 H1,.int .u64 S,.int .i64 Z] _:=StN.at4 X7 2 (.int .u64 S)
  replace XR:=XR.s SX;replace X8:=X8.s SX;replace HB:=Hqs HB SX (by omega);replace X7:=SX.box;clear SX;generalize World.setCell w8 ⟨w5.heap.size,2,none⟩ (.int .u64 S)=w9 at *;have xX7:=X7.cell;have zX70:=X7.frozen;have xX8:=X8.cell
  go_upto_region 10 with (simp only[ha2])
  clear xX7 zX70 xX8
  have SX:StN w9 (World.setCell w9 ⟨w5.heap.size,1,none⟩ (.int .u64 T)) _ _ #[.bool s2,.int .u64 T,.int .u64 S,.int .i64 Z] _:=StN.at4 X7 1 (.int .u64 T)
  replace XR:=XR.s SX;replace HB:=Hqs HB SX (by omega);replace X7:=SX.box;clear SX;generalize World.setCell w9 ⟨w5.heap.size,1,none⟩ (.int .u64 T)=wA at *;have xXR:=XR.cell;have zXR0:=XR.frozen;have xX7:=X7.cell;go_wp2;clear xXR zXR0 xX7;have SX:=StN.mk4 XR (.bool s2) (.int .u64 T) (.int .u64 S) (.int .i64 Z)
  exact bq (v:= .agg #[.bool s2,.int .u64 T,.int .u64 S,.int .i64 Z]) (by simp[results,Tryz.results178,go_sem,SX.box.cell]) rfl ⟨_,_,_,_,rfl,wd_of o3 o4 o1 o2 OO.out.1 z1 z2 fun up=>by rw[<-HZ.out];exact(OO.out.2 up (by omega)).2.2,(SX.below HB.out (by omega))⟩
theorem sum_eqge{w:World}{s1 s2:Bool}{M1 M2 E1 E2 x y:Int}(hT:Tb w)(q1:Fq 1 s1 M1 E1 x)(q2:Fq 1 s2 M2 E2 y)(h:E1=E2)(hm:¬M1 < M2):Calls Tryz.prog 178 #[VQ 1 s1 M1 E1,VQ 1 s2 M2 E2] w (PW6 w fun up=>addp up x y):=by
 delta VQ
 obtain⟨a1,a2,a3,a4,_⟩:=fq_vr q1;obtain⟨b1,b2,b3,b4,_⟩:=fq_vr q2
 have HO:=ie (And.intro h hm)
 obtain⟨n,hn⟩:∃n:Nat,(n:Int)=E1-E2+1:=⟨(E1-E2+1).toNat,by omega⟩
 have hsw:∀(S:Int) up,S=M1*9223372036854775808+sgi (s1 !=s2) (mvd M2 n)->0<=S/\S < 340282366920938463463374607431768211456/\rnd up (mk (sgi s1 S) (E1+1-64)).1 (mk (sgi s1 S) (E1+1-64)).2=addp up x y:=fun S up hS=>by
  obtain⟨u1,u2,u3⟩:=sum_wide up q1 q2 (by omega) hn hS;refine⟨u1,u2,?_⟩
  rw[show E1+1-64=E1-63 by omega,u3]
 have HSW:=ie hsw;obtain⟨N,hN⟩:∃N,(n:Int)=N:=⟨_,rfl⟩;obtain⟨D,hD⟩:∃D,E1-E2=D:=⟨_,rfl⟩
 have n1:1<=n:=by omega
 have n3:n<=4000000:=by omega
 have HN:=ie hN
 have HD:=ie (show IntKind.i64.wrap (E1-E2)=D by rw[hD];exact IntWalk.i64_in _ (by omega))
 have HD2:=ie (show IntKind.i64.wrap (D+1)=N by rw[show D+1=N by omega];exact IntWalk.i64_in _ (by omega))
 obtain⟨Y,hY⟩:∃Y,E2+N=Y:=⟨_,rfl⟩;have HY:=ie hY;obtain⟨Z,hZ⟩:∃Z,E1+1=Z:=⟨_,rfl⟩;have HZ:=ie hZ
 have z1: -2900000<=Z:=by omega
 have z2:Z<=2900000:=by omega
 have v1:mvd M1 1=M1*9223372036854775808:=by
  unfold mvd
  rw[if_pos (by decide)]
  rfl
 have HV1:=ie v1
 have g1:9223372036854775808<=M1:=by omega
 have g2:M1 < 18446744073709551616:=by omega
 have g3: -2000000<=E1:=by omega
 have g4:E1<=2000000:=by omega
 have k1:9223372036854775808<=M2:=by omega
 have k2:M2 < 18446744073709551616:=by omega
 have k3: -2000000<=E2:=by omega
 have k4:E2<=2000000:=by omega
 clear hn hN hD hY hZ v1 hsw h hm q1 q2 a1 a2 a3 a4 b1 b2 b3 b4
 go_enter Tryz.func178,Tryz.ntmps178
 go_upto_region 1 with (fail)
 generalize hW1:((w.alloc _).alloc _).alloc _=w1 at *;obtain⟨X2,X3,XR,HB⟩:=Bo.en3 hW1;replace hT:=hT.below HB.out;clear hW1;have xX2:=X2.cell;have xX3:=X3.cell
 go_wp2_with fail
 refine(order_eqge HO.out.1 (by have:=HO.out.2;omega)).mono ?_;rintro ee w2 ⟨rfl,B⟩;clear xX2 xX3;replace XR:=XR.b B;replace hT:=hT.b B;replace HB:=Hqb HB B;clear B
 go_upto_region 2 with (fail)
 clear X2 X3
 have hsz:(World.alloc w2 (.cells #[.int .i64 1,.bool s1,.int .u64 M1,.int .i64 E1] 24)).heap.size=w2.heap.size+1:=by simp
 have nX5XR:=XR.lt;have BX:=bel1 w2 (.cells #[.int .i64 1,.bool s1,.int .u64 M1,.int .i64 E1] 24);replace XR:=XR.b BX;replace hT:=hT.b BX;replace HB:=ie (bt HB.out BX);have X5:=Bo.new w2 #[.int .i64 1,.bool s1,.int .u64 M1,.int .i64 E1] 24
 generalize hWn:World.alloc w2 (.cells #[.int .i64 1,.bool s1,.int .u64 M1,.int .i64 E1] 24)=w3 at *;clear hWn;have nX6XR:=XR.lt;have nX6X5:=X5.lt;generalize hWn:w3.alloc _=w4 at *;obtain⟨X6,BW⟩:=Bo.nw hWn;clear hWn;replace XR:=XR.b BW;replace X5:=X5.b BW;replace hT:=hT.b BW;replace HB:=Hqb HB BW;clear BW;rw[hsz]at X6 nX6X5 nX6XR;clear hsz
 have xX5:=X5.cell
 go_wp2_with fail
 refine(aMoved (n:=1) (s:=s1) hT g1 g2 (by rfl) HZ.out g3 g4 (by decide) (by decide)).mono ?_;rintro ee w5 ⟨H1,L1,rfl,p1,B⟩;clear xX5;replace XR:=XR.b B;replace X5:=X5.b B;replace X6:=X6.b B;replace hT:=hT.b B;replace HB:=Hqb HB B;clear B;rw[HV1.out]at p1
 go_upto_region 3 with (fail)
 have nX7XR:=XR.lt;have nX7X5:=X5.lt;have nX7X6:=X6.lt;generalize hWn:w5.alloc _=w6 at *;obtain⟨X7,BW⟩:=Bo.nw hWn;clear hWn;replace XR:=XR.b BW;replace X5:=X5.b BW;replace X6:=X6.b BW;replace hT:=hT.b BW;replace HB:=Hqb HB BW;clear BW;have xX5:=X5.cell;have xX6:=X6.cell;have hd:=HD.out
 have hd2:=HD2.out
 go_wp2_with fail
 refine(aMoved (s:=s2) hT k1 k2 HN.out HY.out k3 k4 n1 n3).mono ?_;rintro ee w7 ⟨H2,L2,rfl,p2,B⟩;clear xX5 xX6;replace XR:=XR.b B;replace X5:=X5.b B;replace X6:=X6.b B;replace X7:=X7.b B;replace HB:=Hqb HB B;clear B;clear hd hd2
 go_upto_region 5 with (fail)
 have nX8XR:=XR.lt;have nX8X5:=X5.lt;have nX8X6:=X6.lt;have nX8X7:=X7.lt;generalize hWn:w7.alloc _=w8 at *;obtain⟨X8,BW⟩:=Bo.nw hWn;clear hWn;replace XR:=XR.b BW;replace X5:=X5.b BW;replace X6:=X6.b BW;replace X7:=X7.b BW;replace HB:=Hqb HB BW;clear BW
 by_cases hs:s1=s2
 ·subst hs
  have hxor:(s1 !=s1)=false:=by cases s1 <;> rfl
  have hswv:=HSW.out (M1*9223372036854775808+mvd M2 n);rw[hxor,wsg_f]at hswv;have hb:=(hswv true rfl).2.1;obtain⟨S,c,T,d,f1,f2,f3,f4,c0,c1,o1,o2,o3,o4,o5⟩:=add_words p1 p2 hb
  have ha1:=fun W:World=>aAdd64 W p1.2.2.1 p2.2.2.1 (by decide) (by decide) f1 f2
  have ha2:=fun W:World=>aAdd64 W p1.1 p2.1 c0 c1 f3 f4
  have OO:=ie (And.intro o5 hswv)
  clear f1 f2 f3 f4 p1 p2 hb hswv o5;have xX5:=X5.cell;have xX6:=X6.cell;have xX7:=X7.cell;have zX70:=X7.frozen;have xX8:=X8.cell
  go_upto_region 7 with (simp only[ha1])
  clear xX5 xX6 xX7 zX70 xX8
  have SX:StN w8 (World.setCell w8 ⟨w5.heap.size,2,none⟩ (.int .u64 S)) _ _ #[.bool s1,.int .u64 H1,.int .u64 S,.int .i64 Z] _:=StN.at4 X7 2 (.int .u64 S)
  replace XR:=XR.s SX;replace X5:=X5.s SX;replace X6:=X6.s SX;replace X8:=X8.s SX;replace HB:=Hqs HB SX (by omega);replace X7:=SX.box;clear SX;generalize World.setCell w8 ⟨w5.heap.size,2,none⟩ (.int .u64 S)=w9 at *;have xX7:=X7.cell;have zX70:=X7.frozen;have xX8:=X8.cell
  go_upto_region 10 with (simp only[ha2])
  clear xX7 zX70 xX8
  have SX:StN w9 (World.setCell w9 ⟨w5.heap.size,1,none⟩ (.int .u64 T)) _ _ #[.bool s1,.int .u64 T,.int .u64 S,.int .i64 Z] _:=StN.at4 X7 1 (.int .u64 T)
  replace XR:=XR.s SX;replace X5:=X5.s SX;replace X6:=X6.s SX;replace X8:=X8.s SX;replace HB:=Hqs HB SX (by omega);replace X7:=SX.box;clear SX;generalize World.setCell w9 ⟨w5.heap.size,1,none⟩ (.int .u64 T)=wA at *;have xXR:=XR.cell;have zXR0:=XR.frozen;have xX7:=X7.cell
  go_wp2;clear xXR zXR0 xX7;have SX:=StN.mk4 XR (.bool s1) (.int .u64 T) (.int .u64 S) (.int .i64 Z)
  exact bq (v:= .agg #[.bool s1,.int .u64 T,.int .u64 S,.int .i64 Z]) (by simp[results,Tryz.results178,go_sem,SX.box.cell]) rfl ⟨_,_,_,_,rfl,wd_of o3 o4 o1 o2 OO.out.1 z1 z2 fun up=>by rw[<-HZ.out];exact(OO.out.2 up (by first | rfl | trivial)).2.2,(SX.below HB.out (by omega))⟩
 ·have hxor:(s1 !=s2)=true:=by cases s1 <;> cases s2 <;> first | rfl | exact absurd rfl hs
  have hne:(s1==s2)=false:=by cases s1 <;> cases s2 <;> first | rfl | exact absurd rfl hs
  have hswv:=HSW.out (M1*9223372036854775808-mvd M2 n);rw[hxor,wsg_t]at hswv;have hb:=(hswv true (by omega)).1;obtain⟨S,c,T,d,f1,f2,f3,f4,c0,c1,o1,o2,o3,o4,o5⟩:=sub_words p1 p2 hb
  have ha1:=fun W:World=>aSub64 W p1.2.2.1 p1.2.2.2.1 p2.2.2.1 p2.2.2.2.1 (by decide) (by decide) f1 f2
  have ha2:=fun W:World=>aSub64 W p1.1 p1.2.1 p2.1 p2.2.1 c0 c1 f3 f4
  have OO:=ie (And.intro o5 hswv)
  clear f1 f2 f3 f4 p1 p2 hb hswv o5;have xX5:=X5.cell;have xX6:=X6.cell;have xX7:=X7.cell;have zX70:=X7.frozen;have xX8:=X8.cell
  go_upto_region 9 with (simp only[ha1])
  clear xX5 xX6 xX7 zX70 xX8
  have SX:StN w8 (World.setCell w8 ⟨w5.heap.size,2,none⟩ (.int .u64 S)) _ _ #[.bool s1,.int .u64 H1,.int .u64 S,.int .i64 Z] _:=StN.at4 X7 2 (.int .u64 S)
  replace XR:=XR.s SX;replace X8:=X8.s SX;replace HB:=Hqs HB SX (by omega);replace X7:=SX.box;clear SX;generalize World.setCell w8 ⟨w5.heap.size,2,none⟩ (.int .u64 S)=w9 at *;have xX7:=X7.cell;have zX70:=X7.frozen;have xX8:=X8.cell
  go_upto_region 10 with (simp only[ha2])
  clear xX7 zX70 xX8
  have SX:StN w9 (World.setCell w9 ⟨w5.heap.size,1,none⟩ (.int .u64 T)) _ _ #[.bool s1,.int .u64 T,.int .u64 S,.int .i64 Z] _:=StN.at4 X7 1 (.int .u64 T)
  replace XR:=XR.s SX;replace HB:=Hqs HB SX (by omega);replace X7:=SX.box;clear SX;generalize World.setCell w9 ⟨w5.heap.size,1,none⟩ (.int .u64 T)=wA at *;have xXR:=XR.cell;have zXR0:=XR.frozen;have xX7:=X7.cell;go_wp2;clear xXR zXR0 xX7;have SX:=StN.mk4 XR (.bool s1) (.int .u64 T) (.int .u64 S) (.int .i64 Z)
  exact bq (v:= .agg #[.bool s1,.int .u64 T,.int .u64 S,.int .i64 Z]) (by simp[results,Tryz.results178,go_sem,SX.box.cell]) rfl ⟨_,_,_,_,rfl,wd_of o3 o4 o1 o2 OO.out.1 z1 z2 fun up=>by rw[<-HZ.out];exact(OO.out.2 up (by omega)).2.2,(SX.below HB.out (by omega))⟩
theorem sum_gt{w:World}{s1 s2:Bool}{M1 M2 E1 E2 x y:Int}(hT:Tb w)(q1:Fq 1 s1 M1 E1 x)(q2:Fq 1 s2 M2 E2 y)(h:E2 < E1):Calls Tryz.prog 178 #[VQ 1 s1 M1 E1,VQ 1 s2 M2 E2] w (PW6 w fun up=>addp up x y):=by
 delta VQ
 obtain⟨a1,a2,a3,a4,_⟩:=fq_vr q1;obtain⟨b1,b2,b3,b4,_⟩:=fq_vr q2;have HO:=ie (h);obtain⟨n,hn⟩:∃n:Nat,(n:Int)=E1-E2+1:=⟨(E1-E2+1).toNat,by omega⟩
 have hsw:∀(S:Int) up,S=M1*9223372036854775808+sgi (s1 !=s2) (mvd M2 n)->0<=S/\S < 340282366920938463463374607431768211456/\rnd up (mk (sgi s1 S) (E1+1-64)).1 (mk (sgi s1 S) (E1+1-64)).2=addp up x y:=fun S up hS=>by
  obtain⟨u1,u2,u3⟩:=sum_wide up q1 q2 (by omega) hn hS;refine⟨u1,u2,?_⟩
  rw[show E1+1-64=E1-63 by omega,u3]
 have HSW:=ie hsw;obtain⟨N,hN⟩:∃N,(n:Int)=N:=⟨_,rfl⟩;obtain⟨D,hD⟩:∃D,E1-E2=D:=⟨_,rfl⟩
 have n1:1<=n:=by omega
 have n3:n<=4000000:=by omega
 have HN:=ie hN
 have HD:=ie (show IntKind.i64.wrap (E1-E2)=D by rw[hD];exact IntWalk.i64_in _ (by omega))
 have HD2:=ie (show IntKind.i64.wrap (D+1)=N by rw[show D+1=N by omega];exact IntWalk.i64_in _ (by omega))
 obtain⟨Y,hY⟩:∃Y,E2+N=Y:=⟨_,rfl⟩;have HY:=ie hY;obtain⟨Z,hZ⟩:∃Z,E1+1=Z:=⟨_,rfl⟩;have HZ:=ie hZ
 have z1: -2900000<=Z:=by omega
 have z2:Z<=2900000:=by omega
 have v1:mvd M1 1=M1*9223372036854775808:=by
  unfold mvd
  rw[if_pos (by decide)]
  rfl
 have HV1:=ie v1
 have g1:9223372036854775808<=M1:=by omega
 have g2:M1 < 18446744073709551616:=by omega
 have g3: -2000000<=E1:=by omega
 have g4:E1<=2000000:=by omega
 have k1:9223372036854775808<=M2:=by omega
 have k2:M2 < 18446744073709551616:=by omega
 have k3: -2000000<=E2:=by omega
 have k4:E2<=2000000:=by omega
 clear hn hN hD hY hZ v1 hsw h q1 q2 a1 a2 a3 a4 b1 b2 b3 b4
 go_enter Tryz.func178,Tryz.ntmps178
 go_upto_region 1 with (fail)
 generalize hW1:((w.alloc _).alloc _).alloc _=w1 at *;obtain⟨X2,X3,XR,HB⟩:=Bo.en3 hW1;replace hT:=hT.below HB.out;clear hW1;have xX2:=X2.cell;have xX3:=X3.cell
 go_wp2_with fail
 refine(order_gt HO.out).mono ?_;rintro ee w2 ⟨rfl,B⟩;clear xX2 xX3;replace XR:=XR.b B;replace hT:=hT.b B;replace HB:=Hqb HB B;clear B
 go_upto_region 2 with (fail)
 clear X2 X3
 have hsz:(World.alloc w2 (.cells #[.int .i64 1,.bool s1,.int .u64 M1,.int .i64 E1] 24)).heap.size=w2.heap.size+1:=by simp
 have nX5XR:=XR.lt;have BX:=bel1 w2 (.cells #[.int .i64 1,.bool s1,.int .u64 M1,.int .i64 E1] 24);replace XR:=XR.b BX;replace hT:=hT.b BX;replace HB:=ie (bt HB.out BX);have X5:=Bo.new w2 #[.int .i64 1,.bool s1,.int .u64 M1,.int .i64 E1] 24
 generalize hWn:World.alloc w2 (.cells #[.int .i64 1,.bool s1,.int .u64 M1,.int .i64 E1] 24)=w3 at *;clear hWn;have nX6XR:=XR.lt;have nX6X5:=X5.lt;generalize hWn:w3.alloc _=w4 at *;obtain⟨X6,BW⟩:=Bo.nw hWn;clear hWn;replace XR:=XR.b BW;replace X5:=X5.b BW;replace hT:=hT.b BW;replace HB:=Hqb HB BW;clear BW;rw[hsz]at X6 nX6X5 nX6XR;clear hsz
 have xX5:=X5.cell
 go_wp2_with fail
 refine(aMoved (n:=1) (s:=s1) hT g1 g2 (by rfl) HZ.out g3 g4 (by decide) (by decide)).mono ?_;rintro ee w5 ⟨H1,L1,rfl,p1,B⟩;clear xX5;replace XR:=XR.b B;replace X5:=X5.b B;replace X6:=X6.b B;replace hT:=hT.b B;replace HB:=Hqb HB B;clear B;rw[HV1.out]at p1
 go_upto_region 3 with (fail)
 have nX7XR:=XR.lt;have nX7X5:=X5.lt;have nX7X6:=X6.lt;generalize hWn:w5.alloc _=w6 at *;obtain⟨X7,BW⟩:=Bo.nw hWn;clear hWn;replace XR:=XR.b BW;replace X5:=X5.b BW;replace X6:=X6.b BW;replace hT:=hT.b BW;replace HB:=Hqb HB BW;clear BW;have xX5:=X5.cell;have xX6:=X6.cell;have hd:=HD.out
 have hd2:=HD2.out
 go_wp2_with fail
 refine(aMoved (s:=s2) hT k1 k2 HN.out HY.out k3 k4 n1 n3).mono ?_;rintro ee w7 ⟨H2,L2,rfl,p2,B⟩;clear xX5 xX6;replace XR:=XR.b B;replace X5:=X5.b B;replace X6:=X6.b B;replace X7:=X7.b B;replace HB:=Hqb HB B;clear B;clear hd hd2
 go_upto_region 5 with (fail)
 have nX8XR:=XR.lt;have nX8X5:=X5.lt;have nX8X6:=X6.lt;have nX8X7:=X7.lt;generalize hWn:w7.alloc _=w8 at *;obtain⟨X8,BW⟩:=Bo.nw hWn;clear hWn;replace XR:=XR.b BW;replace X5:=X5.b BW;replace X6:=X6.b BW;replace X7:=X7.b BW;replace HB:=Hqb HB BW;clear BW
 by_cases hs:s1=s2
 ·subst hs
  have hxor:(s1 !=s1)=false:=by cases s1 <;> rfl
  have hswv:=HSW.out (M1*9223372036854775808+mvd M2 n);rw[hxor,wsg_f]at hswv;have hb:=(hswv true rfl).2.1;obtain⟨S,c,T,d,f1,f2,f3,f4,c0,c1,o1,o2,o3,o4,o5⟩:=add_words p1 p2 hb
  have ha1:=fun W:World=>aAdd64 W p1.2.2.1 p2.2.2.1 (by decide) (by decide) f1 f2
  have ha2:=fun W:World=>aAdd64 W p1.1 p2.1 c0 c1 f3 f4
  have OO:=ie (And.intro o5 hswv)
  clear f1 f2 f3 f4 p1 p2 hb hswv o5;have xX5:=X5.cell;have xX6:=X6.cell;have xX7:=X7.cell;have zX70:=X7.frozen;have xX8:=X8.cell
  go_upto_region 7 with (simp only[ha1])
  clear xX5 xX6 xX7 zX70 xX8
  have SX:StN w8 (World.setCell w8 ⟨w5.heap.size,2,none⟩ (.int .u64 S)) _ _ #[.bool s1,.int .u64 H1,.int .u64 S,.int .i64 Z] _:=StN.at4 X7 2 (.int .u64 S)
  replace XR:=XR.s SX;replace X5:=X5.s SX;replace X6:=X6.s SX;replace X8:=X8.s SX;replace HB:=Hqs HB SX (by omega);replace X7:=SX.box;clear SX;generalize World.setCell w8 ⟨w5.heap.size,2,none⟩ (.int .u64 S)=w9 at *;have xX7:=X7.cell;have zX70:=X7.frozen;have xX8:=X8.cell
  go_upto_region 10 with (simp only[ha2])
  clear xX7 zX70 xX8
  have SX:StN w9 (World.setCell w9 ⟨w5.heap.size,1,none⟩ (.int .u64 T)) _ _ #[.bool s1,.int .u64 T,.int .u64 S,.int .i64 Z] _:=StN.at4 X7 1 (.int .u64 T)
  replace XR:=XR.s SX;replace X5:=X5.s SX;replace X6:=X6.s SX;replace X8:=X8.s SX;replace HB:=Hqs HB SX (by omega);replace X7:=SX.box;clear SX;generalize World.setCell w9 ⟨w5.heap.size,1,none⟩ (.int .u64 T)=wA at *;have xXR:=XR.cell;have zXR0:=XR.frozen;have xX7:=X7.cell
  go_wp2;clear xXR zXR0 xX7;have SX:=StN.mk4 XR (.bool s1) (.int .u64 T) (.int .u64 S) (.int .i64 Z)
  exact bq (v:= .agg #[.bool s1,.int .u64 T,.int .u64 S,.int .i64 Z]) (by simp[results,Tryz.results178,go_sem,SX.box.cell]) rfl ⟨_,_,_,_,rfl,wd_of o3 o4 o1 o2 OO.out.1 z1 z2 fun up=>by rw[<-HZ.out];exact(OO.out.2 up (by first | rfl | trivial)).2.2,(SX.below HB.out (by omega))⟩
 ·have hxor:(s1 !=s2)=true:=by cases s1 <;> cases s2 <;> first | rfl | exact absurd rfl hs
  have hne:(s1==s2)=false:=by cases s1 <;> cases s2 <;> first | rfl | exact absurd rfl hs
  have hswv:=HSW.out (M1*9223372036854775808-mvd M2 n);rw[hxor,wsg_t]at hswv;have hb:=(hswv true (by omega)).1;obtain⟨S,c,T,d,f1,f2,f3,f4,c0,c1,o1,o2,o3,o4,o5⟩:=sub_words p1 p2 hb
  have ha1:=fun W:World=>aSub64 W p1.2.2.1 p1.2.2.2.1 p2.2.2.1 p2.2.2.2.1 (by decide) (by decide) f1 f2
  have ha2:=fun W:World=>aSub64 W p1.1 p1.2.1 p2.1 p2.2.1 c0 c1 f3 f4
  have OO:=ie (And.intro o5 hswv)
  clear f1 f2 f3 f4 p1 p2 hb hswv o5;have xX5:=X5.cell;have xX6:=X6.cell;have xX7:=X7.cell;have zX70:=X7.frozen;have xX8:=X8.cell
  go_upto_region 9 with (simp only[ha1])
  clear xX5 xX6 xX7 zX70 xX8
  have SX:StN w8 (World.setCell w8 ⟨w5.heap.size,2,none⟩ (.int .u64 S)) _ _ #[.bool s1,.int .u64 H1,.int .u64 S,.int .i64 Z] _:=StN.at4 X7 2 (.int .u64 S)
  replace XR:=XR.s SX;replace X8:=X8.s SX;replace HB:=Hqs HB SX (by omega);replace X7:=SX.box;clear SX;generalize World.setCell w8 ⟨w5.heap.size,2,none⟩ (.int .u64 S)=w9 at *;have xX7:=X7.cell;have zX70:=X7.frozen;have xX8:=X8.cell
  go_upto_region 10 with (simp only[ha2])
  clear xX7 zX70 xX8
  have SX:StN w9 (World.setCell w9 ⟨w5.heap.size,1,none⟩ (.int .u64 T)) _ _ #[.bool s1,.int .u64 T,.int .u64 S,.int .i64 Z] _:=StN.at4 X7 1 (.int .u64 T)
  replace XR:=XR.s SX;replace HB:=Hqs HB SX (by omega);replace X7:=SX.box;clear SX;generalize World.setCell w9 ⟨w5.heap.size,1,none⟩ (.int .u64 T)=wA at *;have xXR:=XR.cell;have zXR0:=XR.frozen;have xX7:=X7.cell;go_wp2;clear xXR zXR0 xX7;have SX:=StN.mk4 XR (.bool s1) (.int .u64 T) (.int .u64 S) (.int .i64 Z)
  exact bq (v:= .agg #[.bool s1,.int .u64 T,.int .u64 S,.int .i64 Z]) (by simp[results,Tryz.results178,go_sem,SX.box.cell]) rfl ⟨_,_,_,_,rfl,wd_of o3 o4 o1 o2 OO.out.1 z1 z2 fun up=>by rw[<-HZ.out];exact(OO.out.2 up (by omega)).2.2,(SX.below HB.out (by omega))⟩
theorem aSum2{w:World}{s1 s2:Bool}{M1 M2 E1 E2 x y:Int}(hT:Tb w)(q1:Fq 1 s1 M1 E1 x)(q2:Fq 1 s2 M2 E2 y):Calls Tryz.prog 178 #[VQ 1 s1 M1 E1,VQ 1 s2 M2 E2] w (PW6 w fun up=>addp up x y):=by
 delta VQ
 rcases Int.lt_trichotomy E1 E2 with h | h | h
 ·exact sum_lt hT q1 q2 h
 ·by_cases hm:M1 < M2
  ·exact sum_eqlt hT q1 q2 h hm
  ·exact sum_eqge hT q1 q2 h hm
 ·exact sum_gt hT q1 q2 h
theorem fq_tk{D:Int}{s:Bool}{M E:Int}(hM:LQ M):∃K1 s1 M1 E1,Fq K1 s1 M1 E1 (rk D s M E):=by
 by_cases hm:MayQ D s M E
 ·exact⟨_,_,_,_,rk_fq hM hm⟩
 ·rw[rk_not hm];exact⟨_,_,_,_,Fq.nought⟩
theorem aTaken{w:World}{D M E:Int}{s:Bool}{K1 M1 E1 x:Int}{s1:Bool}(hM:LQ M)(q:Fq K1 s1 M1 E1 x)(hx:rk D s M E=x):Calls Tryz.prog 177 #[VQ D s M E] w (fun e w'=>e= .returned (.agg #[.int .i64 K1,.bool s1,.int .u64 M1,.int .i64 E1])/\Below w.heap.size w w'):=by
 delta VQ
 by_cases hm:MayQ D s M E
 ·obtain⟨rfl,rfl,rfl,rfl⟩:=q.uniq (hx▸rk_fq hM hm)
  have HC:=ie (show decide (MayQ K1 s1 M1 E1)=true from dt hm)
  clear hm hx hM q
  go_enter Tryz.func177,Tryz.ntmps177
  go_upto_region 1 with (fail)
  generalize hW1:(w.alloc _).alloc _=w1 at *;obtain⟨X1,XR,HB⟩:=Bo.en2 hW1;clear hW1;have xX1:=X1.cell
  go_wp2_with fail
  refine(nMay HC.out).mono ?_;rintro ee w2 ⟨rfl,B⟩;clear xX1;replace X1:=X1.b B;replace XR:=XR.b B;replace HB:=Hqb HB B;clear B;have xXR:=XR.cell;have zXR0:=XR.frozen;have xX1:=X1.cell;go_wp2;clear xXR zXR0 xX1;have SX:=StN.t4 XR K1 s1 M1 E1
  exact bq (v:= .agg #[.int .i64 K1,.bool s1,.int .u64 M1,.int .i64 E1]) (by simp[results,Tryz.results177,go_sem,SX.box.cell]) rfl ⟨rfl,(SX.below HB.out (by omega))⟩
 ·rw[rk_not hm]at hx;subst hx;obtain⟨rfl,rfl,rfl,rfl⟩:=q.uniq Fq.nought
  have HC:=ie (show decide (MayQ D s M E)=false from df hm)
  clear hm hM q
  go_enter Tryz.func177,Tryz.ntmps177
  go_upto_region 1 with (fail)
  generalize hW1:(w.alloc _).alloc _=w1 at *;obtain⟨X1,XR,HB⟩:=Bo.en2 hW1;clear hW1;have xX1:=X1.cell
  go_wp2_with fail
  refine(nMay HC.out).mono ?_;rintro ee w2 ⟨rfl,B⟩;clear xX1;replace X1:=X1.b B;replace XR:=XR.b B;replace HB:=Hqb HB B;clear B;have xXR:=XR.cell;have zXR0:=XR.frozen;have xX1:=X1.cell;go_wp2;clear xXR zXR0 xX1;have SX:=StN.t4 XR 0 false 0 0
  exact bq (v:= .agg #[.int .i64 0,.bool false,.int .u64 0,.int .i64 0]) (by simp[results,Tryz.results177,go_sem,SX.box.cell]) rfl ⟨rfl,(SX.below HB.out (by omega))⟩
theorem aAdd{w:World}{D D' M M' E E':Int}{s s':Bool}{up:Bool}{x y r:Int}(hT:Tb w)(hM:LQ M)(hM':LQ M')(hx:rk D s M E=x)(hy:rk D' s' M' E'=y)(hr:addp up x y=r):Calls Tryz.prog 106 #[VQ D s M E,VQ D' s' M' E',.bool up] w (PN w r):=by
 delta VQ
 obtain⟨K1,s1,M1,E1,q1⟩:=fq_tk (D:=D) (s:=s) (M:=M) (E:=E) hM;obtain⟨K2,s2,M2,E2,q2⟩:=fq_tk (D:=D') (s:=s') (M:=M') (E:=E') hM';rw[hx]at q1;rw[hy]at q2;have HX:=ie hx;have HY:=ie hy;clear hx hy
 go_enter Tryz.func106,Tryz.ntmps106
 go_upto_region 1 with (fail)
 generalize hW1:((w.alloc _).alloc _).alloc _=w1 at *;obtain⟨X3,X4,XR,HB⟩:=Bo.en3 hW1;replace hT:=hT.below HB.out;clear hW1;refine jk [0,1,2,3] [some 7,some 8,some 9,some 10,none,none] [[],[0],[],[2],[],[]] 6 2 [Jo.q4 D s M E,Jo.q4 K1 s1 M1 E1,Jo.q4 D' s' M' E',Jo.q4 K2 s2 M2 E2,Jo.Fact.any,Jo.Fact.any] ?_ ?_
 ·refine jm ?_ ?_;rotate_left
  refine jm ?_ ?_
  ·rintro wj hJ _ rfl K hK;simp only[Jo.z]at hK|-;go_simp;refine(aTaken hM q1 HX.out).mono ?_;rintro ee wk ⟨rfl,B⟩;exact hK.out _ _ rfl B
  refine jm ?_ ?_;rotate_left
  refine jm ?_ ?_
  ·rintro wj hJ _ rfl K hK;simp only[Jo.z]at hK|-;go_simp;refine(aTaken hM' q2 HY.out).mono ?_;rintro ee wk ⟨rfl,B⟩;exact hK.out _ _ rfl B
  exact jo
  all_goals (rintro wj hJ;(repeat rintro _ rfl);intro K hK;simp only[Jo.z]at hK|-;have xX3:=(X3.b hJ).cell;have xX4:=(X4.b hJ).cell;go_simp;exact hK.out _ _ rfl (br _ _))
 rintro w2 hJ _ rfl _ rfl _ rfl _ rfl -;simp only[Jo.z];replace X3:=X3.b hJ;replace X4:=X4.b hJ;replace XR:=XR.b hJ;replace hT:=hT.b hJ;replace HB:=Hqb HB hJ;have xX3:=X3.cell;have zX30:=X3.frozen
 refine jn 4 fun K hK=>?_
 go_simp;refine hK.out _ _ ?_;clear hK K xX3 zX30;generalize hS:(((w2.setCell _ _).setCell _ _).setCell _ _).setCell _ _=w3 at *;have SX:=StN.of4 X3 hS;replace X4:=X4.s SX;replace XR:=XR.s SX;replace hT:=hT.s SX;replace HB:=Hqs HB SX (by omega);replace X3:=SX.box;clear SX hS;have xX4:=X4.cell
 have zX40:=X4.frozen
 refine jn 5 fun K hK=>?_
 go_simp;refine hK.out _ _ ?_;clear hK K xX4 zX40;generalize hS:(((w3.setCell _ _).setCell _ _).setCell _ _).setCell _ _=w4 at *;have SX:=StN.of4 X4 hS;replace X3:=X3.s SX;replace XR:=XR.s SX;replace hT:=hT.s SX;replace HB:=Hqs HB SX (by omega);replace X4:=SX.box;clear SX hS;refine jd ?_
 clear HX HY hM hM';have i1:=fq_inf q1;have i2:=fq_inf q2;have z1:=q1.zero_iff;have z2:=q2.zero_iff;have d1:=q1.bd;have d2:=q2.bd
 have kk1:K1=2\/K1=0\/K1=1:=by rcases q1.cases with⟨h,_⟩ | ⟨h,_⟩ | ⟨h,_⟩ <;> omega
 have kk2:K2=2\/K2=0\/K2=1:=by rcases q2.cases with⟨h,_⟩ | ⟨h,_⟩ | ⟨h,_⟩ <;> omega
 rcases kk1 with rfl | rfl | rfl
 ·rcases kk2 with rfl | rfl | rfl
  ·by_cases ks:s1=s2
   ·rw[addp_same up i1 ((fq_same q1 q2).2 ks)]at hr;subst hr;subst ks;clear i1 i2 z1 z2 d1 d2 q2;have xXR:=XR.cell;have zXR0:=XR.frozen;have xX3:=X3.cell;have xX4:=X4.cell;go_wp2;clear xXR zXR0 xX3 xX4;have SX:=StN.t4 XR 2 s1 M1 E1
    exact bq (by simp[results,Tryz.results106,go_sem,SX.box.cell]) rfl ⟨_,_,_,_,rfl,q1,(SX.below HB.out (by omega))⟩
   ·rw[addp_diff up i1 i2 (fun e=>ks ((fq_same q1 q2).1 e))]at hr
    obtain rfl:(!s1)=s2:=by cases s1 <;> cases s2 <;> first | rfl | exact absurd rfl ks
    have e2:(s1==!s1)=false:=by cases s1 <;> rfl
    have HRR:=ie hr;clear i1 i2 z1 z2 d1 d2 q1 q2 hr ks;have xX3:=X3.cell;have xX4:=X4.cell
    go_wp2_with fail
    refine(nInf (s:=!up) HRR.out).mono ?_;rintro ee w5 ⟨K3,s3,M3,E3,rfl,q3,B⟩;clear xX3 xX4;replace X3:=X3.b B;replace X4:=X4.b B;replace XR:=XR.b B;replace HB:=Hqb HB B;clear B;have xXR:=XR.cell;have zXR0:=XR.frozen;go_wp2;clear xXR zXR0;have SX:=StN.t4 XR K3 s3 M3 E3
    exact bq (by simp[results,Tryz.results106,go_sem,SX.box.cell]) rfl ⟨_,_,_,_,rfl,q3,(SX.below HB.out (by omega))⟩
  ·rw[addp_tf up i1 i2]at hr;subst hr;clear i1 i2 z1 z2 d1 d2 q2;have xXR:=XR.cell;have zXR0:=XR.frozen;have xX3:=X3.cell;have xX4:=X4.cell;go_wp2;clear xXR zXR0 xX3 xX4;have SX:=StN.t4 XR 2 s1 M1 E1;exact bq (by simp[results,Tryz.results106,go_sem,SX.box.cell]) rfl ⟨_,_,_,_,rfl,q1,(SX.below HB.out (by omega))⟩
  ·rw[addp_tf up i1 i2]at hr;subst hr;clear i1 i2 z1 z2 d1 d2 q2;have xXR:=XR.cell;have zXR0:=XR.frozen;have xX3:=X3.cell;have xX4:=X4.cell;go_wp2;clear xXR zXR0 xX3 xX4;have SX:=StN.t4 XR 2 s1 M1 E1;exact bq (by simp[results,Tryz.results106,go_sem,SX.box.cell]) rfl ⟨_,_,_,_,rfl,q1,(SX.below HB.out (by omega))⟩
 ·rcases kk2 with rfl | rfl | rfl
  ·rw[addp_ft up i1 i2]at hr;subst hr;clear i1 i2 z1 z2 d1 d2 q1;have xXR:=XR.cell;have zXR0:=XR.frozen;have xX3:=X3.cell;have xX4:=X4.cell;go_wp2;clear xXR zXR0 xX3 xX4;have SX:=StN.t4 XR 2 s2 M2 E2;exact bq (by simp[results,Tryz.results106,go_sem,SX.box.cell]) rfl ⟨_,_,_,_,rfl,q2,(SX.below HB.out (by omega))⟩
  ·rw[z2.1 rfl,addp_zero up d1.1 d1.2]at hr;subst hr;clear i1 i2 z1 z2 d1 d2 q2;have xXR:=XR.cell;have zXR0:=XR.frozen;have xX3:=X3.cell;have xX4:=X4.cell;go_wp2;clear xXR zXR0 xX3 xX4;have SX:=StN.t4 XR 0 s1 M1 E1;exact bq (by simp[results,Tryz.results106,go_sem,SX.box.cell]) rfl ⟨_,_,_,_,rfl,q1,(SX.below HB.out (by omega))⟩
  ·rw[z1.1 rfl,addp_comm,addp_zero up d2.1 d2.2]at hr;subst hr;clear i1 i2 z1 z2 d1 d2 q1;have xXR:=XR.cell;have zXR0:=XR.frozen;have xX3:=X3.cell;have xX4:=X4.cell;go_wp2;clear xXR zXR0 xX3 xX4;have SX:=StN.t4 XR 1 s2 M2 E2
   exact bq (by simp[results,Tryz.results106,go_sem,SX.box.cell]) rfl ⟨_,_,_,_,rfl,q2,(SX.below HB.out (by omega))⟩
 ·rcases kk2 with rfl | rfl | rfl
  ·rw[addp_ft up i1 i2]at hr;subst hr;clear i1 i2 z1 z2 d1 d2 q1;have xXR:=XR.cell;have zXR0:=XR.frozen;have xX3:=X3.cell;have xX4:=X4.cell;go_wp2;clear xXR zXR0 xX3 xX4;have SX:=StN.t4 XR 2 s2 M2 E2;exact bq (by simp[results,Tryz.results106,go_sem,SX.box.cell]) rfl ⟨_,_,_,_,rfl,q2,(SX.below HB.out (by omega))⟩
  ·rw[z2.1 rfl,addp_zero up d1.1 d1.2]at hr;subst hr;clear i1 i2 z1 z2 d1 d2 q2;have xXR:=XR.cell;have zXR0:=XR.frozen;have xX3:=X3.cell;have xX4:=X4.cell;go_wp2;clear xXR zXR0 xX3 xX4;have SX:=StN.t4 XR 1 s1 M1 E1;exact bq (by simp[results,Tryz.results106,go_sem,SX.box.cell]) rfl ⟨_,_,_,_,rfl,q1,(SX.below HB.out (by omega))⟩
  ·have HRR:=ie hr;clear i1 i2 z1 z2 d1 d2 hr;have xX3:=X3.cell;have xX4:=X4.cell
   go_wp2_with fail
   refine(aSum2 hT q1 q2).mono ?_;rintro ee w5 ⟨s3,H3,L3,x3,rfl,p3,B⟩;clear xX3 xX4;replace XR:=XR.b B;replace HB:=Hqb HB B;clear B
   go_wp2_with fail
   refine(aRound p3 HRR.out).mono ?_;rintro ee w6 ⟨K4,s4,M4,E4,rfl,q4,B⟩;replace XR:=XR.b B;replace HB:=Hqb HB B;clear B;have xXR:=XR.cell;have zXR0:=XR.frozen;go_wp2;clear xXR zXR0;have SX:=StN.t4 XR K4 s4 M4 E4;exact bq (by simp[results,Tryz.results106,go_sem,SX.box.cell]) rfl ⟨_,_,_,_,rfl,q4,(SX.below HB.out (by omega))⟩
theorem aSub{w:World}{D D' M M' E E':Int}{s s':Bool}{up:Bool}{x y r:Int}(hT:Tb w)(hM:LQ M)(hM':LQ M')(hx:rk D s M E=x)(hy: -rk D' s' M' E'=y)(hr:addp up x y=r):Calls Tryz.prog 105 #[VQ D s M E,VQ D' s' M' E',.bool up] w (PN w r):=by
 delta VQ
 have HX:=ie hx;have HY:=ie hy;have HR:=ie hr;clear hx hy hr
 go_enter Tryz.func105,Tryz.ntmps105
 go_upto_region 1 with (fail)
 generalize hW1:((w.alloc _).alloc _).alloc _=w1 at *;obtain⟨X3,X4,XR,HB⟩:=Bo.en3 hW1;replace hT:=hT.below HB.out;clear hW1;refine jk [0,1,2,3,4] [some 7,some 8,some 9,some 10,some 11,none] [[],[],[1],[],[0,2,3],[]] 6 1 [Jo.q4 D s M E,Jo.q4 D' s' M' E',Jo.Fact.num y,Jo.qb up,Jo.Fact.num r,Jo.Fact.any] ?_ ?_
 ·iterate 2 (refine jm ?_ ?_;rotate_left)
  refine jm ?_ ?_
  ·rintro wj hJ _ rfl K hK;simp only[Jo.z]at hK|-;go_simp;exact Jo.n1 (nNeg hM' HY.out) hK.out
  refine jm ?_ ?_;rotate_left
  refine jm ?_ ?_
  ·rintro wj hJ _ rfl _ ⟨K4,s4,M4,E4,rfl,q4⟩ _ rfl K hK;simp only[Jo.z]at hK|-;go_simp;exact Jo.n1 (aAdd (hT.b hJ) hM q4.top HX.out q4.rk HR.out) hK.out
  exact jo
  all_goals (rintro wj hJ;(repeat rintro _ rfl);intro K hK;simp only[Jo.z]at hK|-;have xX3:=(X3.b hJ).cell;have xX4:=(X4.b hJ).cell;go_simp;exact hK.out _ _ rfl (br _ _))
 rintro w2 hJ _ rfl _ rfl _ ⟨K4,s4,M4,E4,rfl,q4⟩ _ rfl _ ⟨K5,s5,M5,E5,rfl,q5⟩ -;simp only[Jo.z];replace XR:=XR.b hJ;replace HB:=Hqb HB hJ;have xXR:=XR.cell;have zXR0:=XR.frozen
 refine jn 5 fun K hK=>?_
 go_simp;refine hK.out _ _ ?_;clear hK K xXR zXR0;have SX:=StN.t4 XR K5 s5 M5 E5;refine jd ?_;go_wp2;exact bq (by simp[results,Tryz.results105,go_sem,SX.box.cell]) rfl ⟨_,_,_,_,rfl,q5,(SX.below HB.out (by omega))⟩
def Fz (x:Int)(h:Nat):Prop:=infp x=true\/Fit h (ep x)
theorem Fz.mono{x:Int}{h k:Nat}(f:Fz x h)(hk:h<=k):Fz x k:=f.imp id fun g=>g.mono hk
theorem Fz.zero (h:Nat):Fz 0 h:= .inr (by rw[ep_zero];exact Fit.zero h)
theorem has_in{a b n:Int}(h1: -19342822337206103650074625 < n)(h2:n < 19342822337206103650074625)(h3:a<=n)(h4:n<=b):hasI (some (a,b)) n=true:=by
 simp[hasI,infp_fin h1 h2]
 omega
theorem foldl_ok{f:Sp->Sp->Sp}(hf:∀x y,SpOk x->SpOk y->SpOk (f x y)):∀{l:List Sp} {x:Sp},SpOk x->(∀y ∈ l,SpOk y)->SpOk (l.foldl f x)
 | [],_,h,_=>h
 | y::l,x,h,k=>foldl_ok hf (l:=l) (hf x y h (k y (List.mem_cons_self ..))) (fun z hz=>k z (List.mem_cons_of_mem _ hz))
theorem hullL_ok{l:List Sp}(h:∀y ∈ l,SpOk y):SpOk (hullL l):=foldl_ok (fun _ _=>hullI_ok) trivial h
theorem meet_stuck:∀l:List Sp,l.foldl meetI none=none
 | []=>rfl
 | _::l=>meet_stuck l
def In (x:Int):Prop:= -19342822337206103650074625<=x/\x<=19342822337206103650074625
theorem mkI_in{a b:Int}(ha:In a)(hb:In b):SpOk (mkI a b):=mkI_ok ha.1 hb.2
theorem SpOk.in1{a b:Int}(h:SpOk (some (a,b))):In a/\In b:=by
 obtain⟨h1,h2,h3,h4,h5⟩:=h;exact⟨⟨by omega,by omega⟩,⟨by omega,by omega⟩⟩
def negI (x:Sp):Sp:=match x with
 | none=>none
 | some (a,b)=>mkI (-b) (-a)
def addI (x y:Sp):Sp:=match x,y with
 | some (a,b),some (c,d)=>mkI (addp false a c) (addp true b d)
 | _,_=>none
def cor (f:Bool->Int->Int->Int)(a b c d:Int):Sp:=mkI (min (min (f false a c) (f false a d)) (min (f false b c) (f false b d))) (max (max (f true a c) (f true a d)) (max (f true b c) (f true b d)))
def mulI (x y:Sp):Sp:=match x,y with
 | some (a,b),some (c,d)=>cor mulp a b c d
 | _,_=>none
theorem negI_some{a b:Int}(h:SpOk (some (a,b))):negI (some (a,b))=some (-b,-a):=by
 obtain⟨h1,h2,h3,h4,h5⟩:=h;exact mkI_some (by omega) (by omega) (by omega)
theorem negI_ok{x:Sp}(h:SpOk x):SpOk (negI x):=by
 rcases x with _ | ⟨a,b⟩
 ·exact trivial
 ·obtain⟨⟨h1,h2⟩,h3,h4⟩:=h.in1;exact mkI_in ⟨by omega,by omega⟩ ⟨by omega,by omega⟩
theorem neg_neg{x:Sp}(h:SpOk x):negI (negI x)=x:=by
 rcases x with _ | ⟨a,b⟩
 ·rfl
 ·have k:=negI_ok h;rw[negI_some h]at k|-;rw[negI_some k,Int.neg_neg,Int.neg_neg]
theorem add_comm (x y:Sp):addI x y=addI y x:=by
 rcases x with _ | ⟨a,b⟩ <;> rcases y with _ | ⟨c,d⟩ <;> first | rfl | skip
 show mkI _ _=mkI _ _
 rw[addp_comm (x:=a),addp_comm (x:=b)]
theorem mul_comm (x y:Sp):mulI x y=mulI y x:=by
 rcases x with _ | ⟨a,b⟩ <;> rcases y with _ | ⟨c,d⟩ <;> first | rfl | skip
 show cor mulp a b c d=cor mulp c d a b
 unfold cor
 simp only[mulp_comm (x:=c),mulp_comm (x:=d)]
 congr 1 <;> omega
def DnQ (A B r:Int):Prop:= -19342822337206103650074625<=r/\r<=19342822337206103650074624/\(-19342822337206103650074625 < r->vr r*B<=A)/\(r < 19342822337206103650074624->A < vr (r+1)*B)
def UpQ (A B r:Int):Prop:=DnQ (-A) B (-r)
def Sid (up:Bool)(A B r:Int):Prop:=if up=true then UpQ A B r else DnQ A B r
theorem sid_f{A B r:Int}:Sid false A B r=DnQ A B r:=if_neg (by decide)
theorem sid_t{A B r:Int}:Sid true A B r=UpQ A B r:=if_pos rfl
theorem DnQ.mono{A B C D r t:Int}(hB:0 < B)(hD:0 < D)(h:DnQ A B r)(k:DnQ C D t)(hAC:A*D<=C*B):r<=t:=by
 obtain⟨h1,h2,h3,h4⟩:=h;obtain⟨k1,k2,k3,k4⟩:=k
 rcases Int.lt_or_le t r with q | q
 ·exfalso
  have a:=h3 (by omega);have b:=k4 (by omega)
  have c:vr (t+1)<=vr r:=vr_le (by omega)
  have a2:vr r*B*D<=A*D:=Int.mul_le_mul_of_nonneg_right a (Int.le_of_lt hD)
  have b2:C*B < vr (t+1)*D*B:=Int.mul_lt_mul_of_pos_right b hB
  have c2:vr (t+1)*(D*B)<=vr r*(D*B):=Int.mul_le_mul_of_nonneg_right c (Int.le_of_lt (Int.mul_pos hD hB))
  rw[Int.mul_assoc,Int.mul_comm B D]at a2;rw[Int.mul_assoc]at b2
  omega
 ·exact q
theorem DnQ.uniq{A B r t:Int}(hB:0 < B)(h:DnQ A B r)(k:DnQ A B t):r=t:=by
 have a:=h.mono hB hB k (Int.le_refl _);have b:=k.mono hB hB h (Int.le_refl _)
 omega
theorem Sid.uniq{up:Bool}{A B r t:Int}(hB:0 < B)(h:Sid up A B r)(k:Sid up A B t):r=t:=by
 cases up
 ·rw[sid_f]at h k;exact h.uniq hB k
 ·rw[sid_t]at h k
  have:=DnQ.uniq hB h k
  omega
theorem Sid.mono{up:Bool}{A B C D r t:Int}(hB:0 < B)(hD:0 < D)(h:Sid up A B r)(k:Sid up C D t)(hAC:A*D<=C*B):r<=t:=by
 cases up
 ·rw[sid_f]at h k;exact h.mono hB hD k hAC
 ·rw[sid_t]at h k
  have:=DnQ.mono hD hB k h (by rw[Int.neg_mul,Int.neg_mul];omega)
  omega
theorem Sid.neg{up:Bool}{A B r:Int}(h:Sid up A B r):Sid (!up) (-A) B (-r):=by
 cases up
 ·rw[sid_f]at h
  rw[show (!false)=true from rfl,sid_t]
  unfold UpQ
  rw[Int.neg_neg,Int.neg_neg];exact h
 ·rw[sid_t]at h
  rw[show (!true)=false from rfl,sid_f]
  exact h
theorem sid_sgi{s up:Bool}{A B r:Int}(h:Sid (up !=s) A B r):Sid up (sgi s A) B (sgi s r):=by
 cases s
 ·rw[wsg_f,wsg_f]
  cases up <;> exact h
 ·rw[wsg_t,wsg_t]
  have h2:Sid (!up) A B r:=by cases up <;> exact h
  have:=h2.neg
  rwa [Bool.not_not]at this
theorem Sid.bd{up:Bool}{A B r:Int}(h:Sid up A B r): -19342822337206103650074625<=r/\r<=19342822337206103650074625:=by
 cases up
 ·rw[sid_f]at h
  have:=h.1;have:=h.2.1
  omega
 ·rw[sid_t]at h
  have:=h.1;have:=h.2.1
  omega
theorem last_yes (p:Nat->Prop)(h0:p 0):∀n,¬p n->∃k,k < n/\p k/\¬p (k+1)
 | 0,h=>absurd h0 h
 | n+1,h=>by
  by_cases q:p n
  ·exact⟨n,Nat.lt_succ_self _,q,h⟩
  ·obtain⟨k,a,b,c⟩:=last_yes p h0 n q;exact⟨k,Nat.lt_succ_of_lt a,b,c⟩
theorem dnq_ex (A:Int){B:Int}(hB:0 < B):∃r,DnQ A B r:=by
 obtain⟨n,hn⟩:∃n:Nat,(n:Int)=38685644674412207300149250:=⟨38685644674412207300149250,rfl⟩
 obtain⟨k,hk,a,b⟩:=last_yes (fun k=>k=0\/((k:Int)<=38685644674412207300149249/\vr ((k:Int)-19342822337206103650074625)*B<=A)) (.inl rfl) n (by omega)
 refine⟨(k:Int)-19342822337206103650074625,by omega,by omega,fun h=>?_,fun h=>?_⟩
 ·rcases a with a | a
  ·omega
  ·exact a.2
 ·have c:¬vr (((k+1:Nat):Int)-19342822337206103650074625)*B<=A:=fun c=>b (.inr ⟨by omega,c⟩)
  rw[show ((k+1:Nat):Int)-19342822337206103650074625=(k:Int)-19342822337206103650074625+1 by omega]at c
  omega
theorem sid_ex (up:Bool)(A:Int){B:Int}(hB:0 < B):∃r,Sid up A B r:=by
 cases up
 ·obtain⟨r,h⟩:=dnq_ex A hB;exact⟨r,by rw[sid_f];exact h⟩
 ·obtain⟨r,h⟩:=dnq_ex (-A) hB;refine⟨-r,?_⟩;rw[sid_t]
  unfold UpQ
  rw[Int.neg_neg];exact h
theorem DnQ.of_dn{X A B a b r:Int}(hB:0 < B)(h:Dn X r)(h1:a < X)(h2:X < b)(h3:a*B < A)(h4:A < b*B)(hs:∀s,¬(a < vr s/\vr s < b)):DnQ A B r:=by
 obtain⟨d1,d2,d3,d4⟩:=h
 refine⟨d1,d2,fun k=>?_,fun k=>?_⟩
 ·have e:=d3 k;have n:=hs r
  have l:vr r<=a:=by omega
  have:=Int.mul_le_mul_of_nonneg_right l (Int.le_of_lt hB)
  omega
 ·have e:=d4 k;have n:=hs (r+1)
  have l:b<=vr (r+1):=by omega
  have:=Int.mul_le_mul_of_nonneg_right l (Int.le_of_lt hB)
  omega
theorem DnQ.of_eq{X A B r:Int}(hB:0 < B)(h:Dn X r)(e:X*B=A):DnQ A B r:=by
 obtain⟨d1,d2,d3,d4⟩:=h;subst e
 exact⟨d1,d2,fun k=>Int.mul_le_mul_of_nonneg_right (d3 k) (Int.le_of_lt hB),fun k=>Int.mul_lt_mul_of_pos_right (d4 k) hB⟩
theorem sid_of{P:Int × Int}{A B a b:Int}(up:Bool)(hP:Nf P)(hB:0 < B)(h1:a < vl P)(h2:vl P < b)(h3:a*B < A)(h4:A < b*B)(hs:∀s,¬(a < vr s/\vr s < b)):Sid up A B (rnd up P.1 P.2):=by
 obtain⟨p1,p2⟩:=rnd_spec hP
 cases up
 ·rw[sid_f];exact DnQ.of_dn hB p1 h1 h2 h3 h4 hs
 ·rw[sid_t]
  refine DnQ.of_dn (a:= -b) (b:= -a) hB p2 (by omega) (by omega) (by rw[Int.neg_mul];omega) (by rw[Int.neg_mul];omega) (fun s=>?_)
  have:=hs (-s)
  rw[vr_neg]at this
  omega
theorem sid_eq{P:Int × Int}{A B:Int}(up:Bool)(hP:Nf P)(hB:0 < B)(e:vl P*B=A):Sid up A B (rnd up P.1 P.2):=by
 obtain⟨p1,p2⟩:=rnd_spec hP
 cases up
 ·rw[sid_f];exact DnQ.of_eq hB p1 e
 ·rw[sid_t];exact DnQ.of_eq hB p2 (by rw[Int.neg_mul];omega)
theorem no_placeQ{i:Int}{u:Nat}(hi:9223372036854775808<=i)(s:Int):¬(2*i*2^u < vr s/\vr s < (2*i+2)*2^u):=by
 rintro ⟨h1,h2⟩;have hu:=p2pos u
 have hpos:0 < vr s:=Int.lt_of_le_of_lt (Int.mul_nonneg (by omega) (Int.le_of_lt hu)) h1
 have hs:0 < s:=by
  rcases Int.lt_or_le 0 s with q | q
  ·exact q
  ·exfalso
   have:=vr_le q
   rw[show vr 0=0 from rfl]at this
   omega
 have e0:vr s=((s-1)%9223372036854775808+9223372036854775808)*2^((s-1) /9223372036854775808-1048576+KK).toNat:=by
  unfold vr vp
  rw[if_neg (by omega),if_neg (by omega)]
 obtain⟨M,hM⟩:∃M,(s-1)%9223372036854775808+9223372036854775808=M:=⟨_,rfl⟩;obtain⟨t,ht⟩:∃t,((s-1) /9223372036854775808-1048576+(KK:Int)).toNat=t:=⟨_,rfl⟩;rw[hM,ht]at e0
 have hMl:M < 18446744073709551616:=by omega
 rw[e0]at h1 h2;clear e0 hM ht hs hpos
 rcases Nat.lt_or_ge u t with q | q
 ·obtain⟨d,rfl⟩:∃d,t=u+1+d:=⟨t-(u+1),by omega⟩
  have e1:M*2^(u+1+d)=M*2^d*2*2^u:=by
   rw[Int.pow_add,Int.pow_succ];generalize (2:Int)^u=U;generalize (2:Int)^d=D;rw[Int.mul_assoc M D 2,Int.mul_assoc M,Int.mul_comm U 2,Int.mul_comm (2*U) D,Int.mul_assoc D 2 U]
  rw[e1]at h1 h2;have a1:=Int.lt_of_mul_lt_mul_right h1 (Int.le_of_lt hu);have a2:=Int.lt_of_mul_lt_mul_right h2 (Int.le_of_lt hu)
  omega
 ·obtain⟨d,rfl⟩:∃d,u=t+d:=⟨u-t,by omega⟩
  have ht:=p2pos t;have hd:=p2pos d;rw[Int.pow_add]at h1
  have l1:(2:Int)^t*1<=2^t*2^d:=Int.mul_le_mul_of_nonneg_left hd (Int.le_of_lt ht)
  rw[Int.mul_one]at l1
  have l2:2*i*(2:Int)^t<=2*i*(2^t*2^d):=Int.mul_le_mul_of_nonneg_left l1 (by omega)
  have a1:=Int.lt_of_mul_lt_mul_right (Int.lt_of_le_of_lt l2 h1) (Int.le_of_lt ht)
  omega
theorem mk_vlB{z e:Int}(h:z.natAbs < 2^500000)(h1: -3000000<=e)(h2:e<=3000000):vl (mk z e)=z*2^(e+KK).toNat:=by
 obtain⟨η,hη⟩:∃η:Nat,η=4000000:=⟨_,rfl⟩;refine(mk_fit (h:=η) (by omega) (by omega) ?_).2;obtain⟨κ,hκ⟩:∃κ:Nat,κ=500000:=⟨_,rfl⟩;rw[<-hκ]at h
 have:=Nat.mul_lt_mul_of_pos_right h (Nat.pow_pos (n:=(e+(η:Int)).toNat) (show 0 < 2 by decide))
 rw[<-Nat.pow_add]at this;exact Nat.lt_of_lt_of_le this (Nat.pow_le_pow_right (by decide) (by omega))
def stk (q r:Nat):Nat:=2*q+if r=0 then 0 else 1
theorem quo_big{α β n:Nat}(hβ:0 < β)(hn:70+blen β<=n)(ha:α≠0):9223372036854775808<=α*2^n/β:=by
 rw[Nat.le_div_iff_mul_le hβ];have l1:=blen_lt β
 have l2:2^69*β<=2^69*2^blen β:=Nat.mul_le_mul_left _ (Nat.le_of_lt l1)
 rw[<-Nat.pow_add]at l2
 have l3:2^(69+blen β)<=2^n:=Nat.pow_le_pow_right (by decide) (by omega)
 have l4:1*2^n<=α*2^n:=Nat.mul_le_mul_right _ (by omega)
 omega
theorem quo_side{α β:Nat}{e:Int}{n κ:Nat}(up:Bool)(hβ:0 < β)(hq0:α≠0->9223372036854775808<=α*2^n/β)(hκ:κ=500000)(hs:stk (α*2^n/β) (α*2^n%β) < 2^κ)(h1: -2900000<=e-n)(h2:e<=2900000):
  Sid up ((α:Int)*2^(e+KK).toNat) (β:Int) (rnd up (mk ((stk (α*2^n/β) (α*2^n%β):Nat):Int) (e-n-1)).1 (mk ((stk (α*2^n/β) (α*2^n%β):Nat):Int) (e-n-1)).2):=by
 have hk:=KK_eq
 have hb0:(0:Int) < (β:Int):=by omega
 have nf:=mk_nf ((stk (α*2^n/β) (α*2^n%β):Nat):Int) (e-n-1);have ev:=mk_vlB (z:=((stk (α*2^n/β) (α*2^n%β):Nat):Int)) (e:=e-n-1) (by rw[Int.natAbs_natCast,<-hκ];exact hs) (by omega) (by omega);obtain⟨u,hu⟩:∃u:Nat,(e-n-1+(KK:Int)).toNat=u:=⟨_,rfl⟩
 have e1:(e+(KK:Int)).toNat=n+(1+u):=by omega
 rw[hu]at ev
 rw[e1,Int.pow_add,Int.pow_add,show (2:Int)^1=2 from rfl,<-Int.mul_assoc]
 have hd:=Nat.div_add_mod (α*2^n) β;have hm:=Nat.mod_lt (α*2^n) hβ;have hpu:=p2pos u
 have hcast:((α*2^n:Nat):Int)=(α:Int)*2^n:=by push_cast;rfl
 by_cases ha:α=0
 ·subst ha
  have e2:stk (0*2^n/β) (0*2^n%β)=0:=by
   rw[Nat.zero_mul,Nat.zero_div,Nat.zero_mod]
   rfl
  rw[e2]at ev nf|-;refine sid_eq up nf hb0 ?_;rw[ev]
  show (((0:Nat):Int))*2^u*(β:Int)=((0:Nat):Int)*2^n*(2*2^u)
  rw[show (((0:Nat):Int))=0 from rfl,Int.zero_mul,Int.zero_mul,Int.zero_mul,Int.zero_mul]
 ·have hq:=hq0 ha;clear hq0;clear hs;rw[<-hcast];clear hcast;generalize α*2^n=X at ev nf hd hm hq|-;generalize X/β=q at ev nf hd hq|-;generalize X%β=r at ev nf hd hm|-
  have hdI:(β:Int)*(q:Int)+(r:Int)=(X:Int):=by exact_mod_cast hd
  by_cases hr:r=0
  ·have e3:stk q r=2*q:=by
    unfold stk
    rw[if_pos hr]
    omega
   rw[e3]at ev nf|-;refine sid_eq up nf hb0 ?_;rw[ev,<-hdI,hr]
   show (((2*q:Nat)):Int)*2^u*(β:Int)=((β:Int)*(q:Int)+((0:Nat):Int))*(2*2^u)
   push_cast
   generalize (2:Int)^u=U;rw[Int.add_zero,Int.mul_assoc,Int.mul_comm U,Int.mul_assoc 2,<-Int.mul_assoc (q:Int),Int.mul_comm (q:Int),Int.mul_left_comm]
  ·have e3:stk q r=2*q+1:=by
    unfold stk
    rw[if_neg hr]
   rw[e3]at ev nf|-
   have c1:(((2*q+1:Nat)):Int)=2*(q:Int)+1:=by omega
   have c2:(2*(q:Int)*2^u)*(β:Int)=(β:Int)*(q:Int)*(2*2^u):=by
    generalize (2:Int)^u=U;rw[Int.mul_right_comm,Int.mul_comm 2 (q:Int),Int.mul_assoc (q:Int) 2,Int.mul_comm 2 (β:Int),<-Int.mul_assoc (q:Int),Int.mul_comm (q:Int),Int.mul_assoc]
   have c3:((2*(q:Int)+2)*2^u)*(β:Int)=((β:Int)*(q:Int)+(β:Int))*(2*2^u):=by
    rw[show 2*(q:Int)+2=2*((q:Int)+1) by omega,show (β:Int)*(q:Int)+(β:Int)=(β:Int)*((q:Int)+1) by rw[Int.mul_add,Int.mul_one]]
    generalize (2:Int)^u=U;generalize (q:Int)+1=p;rw[Int.mul_right_comm,Int.mul_comm 2 p,Int.mul_assoc p 2,Int.mul_comm 2 (β:Int),<-Int.mul_assoc p,Int.mul_comm p,Int.mul_assoc]
   have h2u:(0:Int) < 2*2^u:=by omega
   refine sid_of up nf hb0 (a:=2*(q:Int)*2^u) (b:=(2*(q:Int)+2)*2^u) ?_ ?_ ?_ ?_ (no_placeQ (by omega))
   ·rw[ev,c1];exact Int.mul_lt_mul_of_pos_right (by omega) hpu
   ·rw[ev,c1];exact Int.mul_lt_mul_of_pos_right (by omega) hpu
   ·rw[c2];exact Int.mul_lt_mul_of_pos_right (by omega) h2u
   ·rw[c3];exact Int.mul_lt_mul_of_pos_right (by omega) h2u
theorem sid_exact{up:Bool}{A B r:Int}(hB:0 < B)(h1: -19342822337206103650074625 < r)(h2:r < 19342822337206103650074625)(e:vr r*B=A):Sid up A B r:=by
 cases up
 ·rw[sid_f];exact DnQ.of_eq hB (dn_self h1 h2) e
 ·rw[sid_t];refine DnQ.of_eq hB (dn_self (r:= -r) (by omega) (by omega)) ?_;rw[vr_neg,Int.neg_mul,e]
theorem sid_two{A B r t:Int}(hB:0 < B)(h:Sid false A B r)(k:Sid true A B t):(t=r/\vr r*B=A/\ -19342822337206103650074625 < r/\r < 19342822337206103650074625)\/(t=r+1/\(-19342822337206103650074625 < r->vr r*B < A)/\(t < 19342822337206103650074625->A < vr t*B)):=by
 rw[sid_f]at h;rw[sid_t]at k;obtain⟨h1,h2,h3,h4⟩:=h;obtain⟨k1,k2,k3,k4⟩:=k
 have k3':t < 19342822337206103650074625->A<=vr t*B:=fun c=>by
  have:=k3 (by omega)
  rw[vr_neg,Int.neg_mul]at this
  omega
 have k4': -19342822337206103650074624 < t->vr (t-1)*B < A:=fun c=>by
  have:=k4 (by omega)
  rw[show -t+1= -(t-1) by omega,vr_neg,Int.neg_mul]at this
  omega
 have mul_le:∀a b:Int,a<=b->vr a*B<=vr b*B:=fun a b c=>Int.mul_le_mul_of_nonneg_right (vr_le c) (Int.le_of_lt hB)
 have hrt:r<=t:=by
  rcases Int.lt_or_le t r with q | q
  ·exfalso
   have a:=h3 (by omega);have b:=k3' (by omega)
   have c:vr t*B < vr r*B:=Int.mul_lt_mul_of_pos_right (vr_lt q) hB
   omega
  ·exact q
 have htr:t<=r+1:=by
  rcases Int.lt_or_le (r+1) t with q | q
  ·exfalso
   have a:=h4 (by omega);have b:=k4' (by omega);have c:=mul_le (r+1) (t-1) (by omega)
   omega
  ·exact q
 by_cases e:t=r
 ·subst e
  left
  have a:=h3 (by omega);have b:=k3' (by omega);exact⟨rfl,by omega,by omega,by omega⟩
 ·right
  have e2:t=r+1:=by omega
  refine⟨e2,fun c=>?_,fun c=>?_⟩
  ·have:=k4' (by omega)
   rw[e2,show r+1-1=r by omega]at this
   exact this
  ·have:=h4 (by omega)
   rw[<-e2]at this;exact this
def Qt (up:Bool)(x y r:Int):Prop:=
 if y=0 then r=sgi (!up) TP else if x=0\/infp y=true then r=0 else if infp x=true then r=sgi (decide (x < 0) !=decide (y < 0)) TP else Sid up (sgi (decide (y < 0)) (vr x)*2^KK) (sgi (decide (y < 0)) (vr y)) r
theorem qt_zero{up:Bool}{x y r:Int}(hy:y≠0)(h:x=0\/infp y=true):Qt up x y r↔r=0:=by
 unfold Qt
 rw[if_neg hy,if_pos h]
theorem qt_none'{up:Bool}{x r:Int}:Qt up x 0 r↔r=sgi (!up) TP:=by
 unfold Qt
 rw[if_pos rfl]
theorem qt_inf{up:Bool}{x y r:Int}(hy:y≠0)(h:¬(x=0\/infp y=true))(hx:infp x=true):Qt up x y r↔r=sgi (decide (x < 0) !=decide (y < 0)) TP:=by
 unfold Qt
 rw[if_neg hy,if_neg h,if_pos hx]
theorem qt_fin{up:Bool}{x y r:Int}(hy:y≠0)(h:¬(x=0\/infp y=true))(hx:infp x=false):Qt up x y r↔Sid up (sgi (decide (y < 0)) (vr x)*2^KK) (sgi (decide (y < 0)) (vr y)) r:=by
 unfold Qt
 rw[if_neg hy,if_neg h,if_neg (by rw[hx];exact ff)]
theorem sg_vr_pos{y:Int}(hy:y≠0):0 < sgi (decide (y < 0)) (vr y):=by
 by_cases c:y < 0
 ·rw[dt c,wsg_t]
  have:=vr_pos (x:= -y) (by omega)
  rw[vr_neg]at this;exact this
 ·rw[df c,wsg_f];exact vr_pos (by omega)
theorem Qt.uniq{up:Bool}{x y r t:Int}(h:Qt up x y r)(k:Qt up x y t):r=t:=by
 by_cases hy:y=0
 ·subst hy;rw[qt_none'.1 h,qt_none'.1 k]
 ·by_cases h0:x=0\/infp y=true
  ·rw[(qt_zero hy h0).1 h,(qt_zero hy h0).1 k]
  ·cases hx:infp x
   ·exact((qt_fin hy h0 hx).1 h).uniq (sg_vr_pos hy) ((qt_fin hy h0 hx).1 k)
   ·rw[(qt_inf hy h0 hx).1 h,(qt_inf hy h0 hx).1 k]
theorem Qt.bd{up:Bool}{x y r:Int}(h:Qt up x y r): -19342822337206103650074625<=r/\r<=19342822337206103650074625:=by
 have htp:=TP_eq
 have sg:∀s,-19342822337206103650074625<=sgi s TP/\sgi s TP<=19342822337206103650074625:=fun s=>by
  rcases sgT s with e | e <;> rw[e] <;> omega
 by_cases hy:y=0
 ·subst hy;rw[qt_none'.1 h];exact sg _
 ·by_cases h0:x=0\/infp y=true
  ·rw[(qt_zero hy h0).1 h]
   decide
  ·cases hx:infp x
   ·exact((qt_fin hy h0 hx).1 h).bd
   ·rw[(qt_inf hy h0 hx).1 h];exact sg _
theorem sgi_sgi (s:Bool)(x:Int):sgi s (sgi s x)=x:=by
 cases s
 ·rw[wsg_f,wsg_f]
 ·rw[wsg_t,wsg_t,Int.neg_neg]
def Rt (up:Bool)(X r:Int):Prop:=
 if up=true then 0 < r/\r<=19342822337206103650074625/\(r < 19342822337206103650074625->X<=vr r*vr r)/\vr (r-1)*vr (r-1) < X
 else 0<=r/\r<=19342822337206103650074624/\vr r*vr r<=X/\(r < 19342822337206103650074624->X < vr (r+1)*vr (r+1))
theorem rt_f{X r:Int}:Rt false X r↔(0<=r/\r<=19342822337206103650074624/\vr r*vr r<=X/\(r < 19342822337206103650074624->X < vr (r+1)*vr (r+1))):=by
 unfold Rt
 rw[if_neg ff]
theorem rt_t{X r:Int}:Rt true X r↔(0 < r/\r<=19342822337206103650074625/\(r < 19342822337206103650074625->X<=vr r*vr r)/\vr (r-1)*vr (r-1) < X):=by
 unfold Rt
 rw[if_pos rfl]
theorem sq_le{a b:Int}(h0:0<=a)(h:a<=b):a*a<=b*b:=Int.mul_le_mul h h h0 (by omega)
theorem vr_sq{r t:Int}(h0:0<=r)(h:r<=t):vr r*vr r<=vr t*vr t:=sq_le (vr_nn h0) (vr_le h)
theorem Rt.uniq{up:Bool}{X r t:Int}(h:Rt up X r)(k:Rt up X t):r=t:=by
 have key:∀{r t},Rt up X r->Rt up X t->¬r < t:=by
  intro r t h k c
  cases up
  ·obtain⟨h1,h2,h3,h4⟩:=rt_f.1 h;obtain⟨k1,k2,k3,k4⟩:=rt_f.1 k;have a:=h4 (by omega);have b:=vr_sq (r:=r+1) (t:=t) (by omega) (by omega)
   omega
  ·obtain⟨h1,h2,h3,h4⟩:=rt_t.1 h;obtain⟨k1,k2,k3,k4⟩:=rt_t.1 k;have a:=h3 (by omega);have b:=vr_sq (r:=r) (t:=t-1) (by omega) (by omega)
   omega
 have a:=key h k;have b:=key k h
 omega
theorem rnd_sgi{σ up:Bool}{z e:Int}:rnd up (mk (sgi σ z) e).1 (mk (sgi σ z) e).2=sgi σ (rnd (up !=σ) (mk z e).1 (mk z e).2):=by
 cases σ
 ·rw[wsg_f,wsg_f]
  cases up <;> rfl
 ·rw[wsg_t,wsg_t,mk_neg];have h:=rnd_turn (mk_nf z e) (!up);rw[Bool.not_not]at h;rw[h]
  cases up <;> rfl
theorem Sid.cross{up:Bool}{A B C D r:Int}(hB:0 < B)(hD:0 < D)(h:Sid up A B r)(e:A*D=C*B):Sid up C D r:=by
 obtain⟨t,ht⟩:=sid_ex up C hD;have a:=h.mono hB hD ht (Int.le_of_eq e);have b:=ht.mono hD hB h (Int.le_of_eq e.symm)
 have c:r=t:=by omega
 rw[c];exact ht
theorem ratio_side{σ up:Bool}{α β:Nat}{e:Int}{n κ:Nat}(hβ:0 < β)(hn:n=70+blen β)(hκ:κ=500000)(hs:stk (α*2^n/β) (α*2^n%β) < 2^κ)(h1: -2900000<=e-n)(h2:e<=2900000):
  Sid up (sgi σ ((α:Int)*2^(e+KK).toNat)) (β:Int) (rnd up (mk (sgi σ ((stk (α*2^n/β) (α*2^n%β):Nat):Int)) (e-n-1)).1 (mk (sgi σ ((stk (α*2^n/β) (α*2^n%β):Nat):Int)) (e-n-1)).2):=by
 rw[rnd_sgi]
 exact sid_sgi (quo_side (up !=σ) hβ (fun ha=>quo_big hβ (by omega) ha) hκ hs h1 h2)
def Rq (up:Bool)(z y r:Int):Prop:=if y=0 then r=sgi (!up) TP else Sid up (sgi (decide (y < 0)) z*2^KK) (sgi (decide (y < 0)) y) r
theorem rq_none{up:Bool}{z r:Int}:Rq up z 0 r↔r=sgi (!up) TP:=by
 unfold Rq
 rw[if_pos rfl]
theorem rq_some{up:Bool}{z y r:Int}(hy:y≠0):Rq up z y r↔Sid up (sgi (decide (y < 0)) z*2^KK) (sgi (decide (y < 0)) y) r:=by
 unfold Rq
 rw[if_neg hy]
theorem sg_pos{y:Int}(hy:y≠0):0 < sgi (decide (y < 0)) y:=by
 by_cases c:y < 0
 ·rw[dt c,wsg_t];omega
 ·rw[df c,wsg_f];omega
theorem rq_ex (up:Bool)(z y:Int):∃r,Rq up z y r:=by
 by_cases hy:y=0
 ·subst hy;exact⟨_,rq_none.2 rfl⟩
 ·obtain⟨r,hr⟩:=sid_ex up (sgi (decide (y < 0)) z*2^KK) (sg_pos hy);exact⟨r,(rq_some hy).2 hr⟩
theorem Rq.uniq{up:Bool}{z y r t:Int}(h:Rq up z y r)(k:Rq up z y t):r=t:=by
 by_cases hy:y=0
 ·subst hy;rw[rq_none.1 h,rq_none.1 k]
 ·exact((rq_some hy).1 h).uniq (sg_pos hy) ((rq_some hy).1 k)
theorem Rq.mono{up:Bool}{z y z' y' r t:Int}(hy:0 < y)(hy':0 < y')(h:Rq up z y r)(k:Rq up z' y' t)(hle:z*y'<=z'*y):r<=t:=by
 have a:=(rq_some (by omega)).1 h;have b:=(rq_some (by omega)).1 k;rw[df (by omega),wsg_f,wsg_f]at a b;refine a.mono hy hy' b ?_
 have:=Int.mul_le_mul_of_nonneg_right hle (Int.le_of_lt (p2pos KK))
 rw[Int.mul_right_comm z,Int.mul_right_comm z'];exact this
theorem rq_of{up s t:Bool}{α β:Nat}{r:Int}(hβ:0 < β)(h:Sid up (sgi (s !=t) ((α:Int)*2^(0+(KK:Int)).toNat)) (β:Int) r):Rq up (sgi s (α:Int)) (sgi t (β:Int)) r:=by
 have hy:sgi t (β:Int)≠0:=by
  cases t
  ·rw[wsg_f];omega
  ·rw[wsg_t];omega
 refine(rq_some hy).2 ?_
 have ht:decide (sgi t (β:Int) < 0)=t:=by
  cases t
  ·rw[wsg_f];exact df (by omega)
  ·rw[wsg_t];exact dt (by omega)
 rw[ht,sgi_sgi]
 have e:sgi t (sgi s (α:Int))*2^KK=sgi (s !=t) ((α:Int)*2^(0+(KK:Int)).toNat):=by
  rw[show (0+(KK:Int)).toNat=KK by omega,<-sgi_mul]
  congr 1
  cases s <;> cases t
  ·rfl
  ·rfl
  ·rfl
  ·rw[show (true !=true)=false from rfl,wsg_f,wsg_t,wsg_t,Int.neg_neg]
 rw[e];exact h
def QF (q:Bool->Int->Int->Int):Prop:=∀up x y,Qt up x y (q up x y)
theorem QF.in{q:Bool->Int->Int->Int}(hq:QF q)(up:Bool)(x y:Int):In (q up x y):=(hq up x y).bd
section
variable {q:Bool->Int->Int->Int}
end
theorem lit_one (W:World):Rd (W.alloc (.cells #[.int .u32 1] 92)) (some ⟨W.heap.size,0,none⟩) 1 1 1:=
 ⟨_,[1],(Own.new W [1]).all (Lim.cons (by decide) Lim.nil) (by simp) (Nat.le_refl _),by decide⟩
theorem stk_zero (q:Nat):stk q 0=q*2^(1:Int).toNat:=by
 unfold stk
 rw[if_pos rfl]
 show 2*q+0=q*2
 omega
theorem stk_one{q r:Nat}(h:r≠0):stk q r=q*2^(1:Int).toNat+1:=by
 unfold stk
 rw[if_neg h]
 show 2*q+1=q*2+1
 omega
theorem sg_sgi (s:Bool)(a:Nat):sg s a=sgi s (a:Int):=by
 cases s
 ·rw[sg_false,wsg_f]
 ·rw[sg_true,wsg_t]
theorem jsticky_n{w:World}{A:Option Addr}{n c a r:Nat}(h:Rd w A n c a)(hn:n<=100000)(hr:a*2^(1:Int).toNat=r):Calls Tryz.prog 224 #[.slice A n c,.bool false] w (P1 w (n+5) r):=by
 have HR:=ie hr;obtain⟨d,hd⟩:∃d,a*2^(1:Int).toNat=d:=⟨_,rfl⟩;have HD:=ie hd;rw[hd]at HR;clear hr hd
 go_enter Tryz.func224,Tryz.ntmps224
 go_wp2_with fail
 refine(rShlN (z:=1) h (by omega) (by decide) (by decide) HD.out).mono ?_;rintro ee w2 ⟨A1,n1,c1,rfl,p1,k1,B1⟩
 have hk1:n1<=n+2:=by
  have:(1:Int).toNat/32=0:=rfl
  omega
 clear h k1
 obtain rfl:d=r:=HR.out
 go_wp2
 go_ret
 exact⟨A1,n1,c1,rfl,p1,by omega,B1⟩
theorem jsticky_y{w:World}{A:Option Addr}{n c a r:Nat}(h:Rd w A n c a)(hn:n<=100000)(hr:a*2^(1:Int).toNat+1=r):Calls Tryz.prog 224 #[.slice A n c,.bool true] w (P1 w (n+5) r):=by
 have HR:=ie hr;obtain⟨d,hd⟩:∃d,a*2^(1:Int).toNat=d:=⟨_,rfl⟩;have HD:=ie hd;rw[hd]at HR;clear hr hd
 go_enter Tryz.func224,Tryz.ntmps224
 go_wp2_with fail
 refine(rShlN (z:=1) h (by omega) (by decide) (by decide) HD.out).mono ?_;rintro ee w2 ⟨A1,n1,c1,rfl,p1,k1,B1⟩
 have hk1:n1<=n+2:=by
  have:(1:Int).toNat/32=0:=rfl
  omega
 clear h k1
 go_wp2_with fail
 refine(rAddE (p1.below (bel1 _ _)).rd (lit_one w2) (by omega) (by decide) HR.out).mono ?_;rintro ee w3 ⟨A2,n2,c2,rfl,p2,k2,B2⟩;go_wp2
 go_ret
 exact⟨A2,n2,c2,rfl,p2,by omega,bt B1 (bt (bel1 _ _) B2)⟩
theorem jSticky{w:World}{A:Option Addr}{n c a d r:Nat}{cut:Bool}(h:Rd w A n c a)(hn:n<=100000)(hc:decide (d≠0)=cut)(hr:stk a d=r):Calls Tryz.prog 224 #[.slice A n c,.bool cut] w (P1 w (n+5) r):=by
 by_cases h0:d=0
 ·subst h0
  obtain rfl:false=cut:=hc
  exact jsticky_n h hn (by rw[<-stk_zero];exact hr)
 ·obtain rfl:true=cut:=by rw[<-hc];exact(dt h0).symm
  exact jsticky_y h hn (by rw[<-stk_one h0];exact hr)
theorem jDivE{w:World}{A1 A2:Option Addr}{n m c1 c2 a d q r:Nat}(h1:Rd w A1 n c1 a)(h2:Rd w A2 m c2 d)(hn:n<=268435456)(hm:m<=268435456)(hd:d≠0)(hq:a/d=q)(hr:a%d=r):
  Calls Tryz.prog 194 #[.slice A1 n c1,.slice A2 m c2] w (P3 w n q r):=hq▸hr▸rDiv h1 h2 hn hm hd
def Jo.Fact.dv (q r K:Nat):Jo.Fact:=⟨fun v w=>∃A n c B m d,v= .tuple #[.slice A n c,.slice B m d,.bool true]/\Nm w A n c q/\Nm w B m d r/\n<=K,fun v w w' h b=>by
 obtain⟨A,n,c,B,m,d,e,p,k,l⟩:=h;exact⟨A,n,c,B,m,d,e,p.below b,k.below b,l⟩⟩
def Jo.Fact.nmA (a:Nat):Jo.Fact:=⟨fun v w=>∃A n c,v= .slice A n c/\Nm w A n c a,fun v w w' h b=>by
 obtain⟨A,n,c,e,p⟩:=h;exact⟨A,n,c,e,p.below b⟩⟩
theorem stk_small{α β κ n:Nat}{N M:Nat}(hβ:0 < β)(hn:n=70+blen β)(hα:α < 4294967296^N)(hβ2:β < 4294967296^M)(hN:N<=3500)(hM:M<=3500)(hκ:κ=500000):stk (α*2^n/β) (α*2^n%β) < 2^κ:=by
 have e32:∀k:Nat,(4294967296:Nat)^k=2^(32*k):=fun k=>by rw[show (4294967296:Nat)=2^32 by decide,<-Nat.pow_mul]
 rw[e32]at hα hβ2
 have b1:blen β<=32*M:=blen_mono_le hβ2
 have q1:α*2^n/β<=α*2^n:=Nat.div_le_self _ _
 have q2:α*2^n < 2^(32*N)*2^n:=Nat.mul_lt_mul_of_pos_right hα (Nat.pow_pos (by decide))
 rw[<-Nat.pow_add]at q2
 have q3:stk (α*2^n/β) (α*2^n%β)<=2*(α*2^n/β)+1:=by
  unfold stk
  split <;> omega
 have q4:2^(32*N+n+1)<=2^κ:=Nat.pow_le_pow_right (by decide) (by omega)
 rw[Nat.pow_succ]at q4
 omega
theorem jratio_z{w:World}{A B:Option Addr}{n c m d α β:Nat}{s t up:Bool}{e r:Int}(ha:Rd w A n c α)(hb:Rd w B m d β)(hn:n<=3500)(hm:m<=3500)(e1: -2200000<=e)(e2:e<=2200000)(h0:β=0)(hr:sgi (!up) TP=r):Calls Tryz.prog 170 #[.agg #[.bool s,.slice A n c],.agg #[.bool t,.slice B m d],.int .i64 e,.bool up] w (PN w r):=by
 subst h0;have HR:=ie hr
 have HS:Hid (cmpI (sg t 0) 0=0):=ie (cmpI_eq (sg_zero t))
 clear hr
 go_enter Tryz.func170,Tryz.ntmps170
 go_upto_region 1 with (fail)
 generalize hW1:((w.alloc _).alloc _).alloc _=w1 at *;obtain⟨X4,X5,XR,HB⟩:=Bo.en3 hW1;replace hb:=hb.below HB.out;clear hW1;have xX5:=X5.cell
 go_wp2_with fail
 refine(qSign (hb.wr t) HS.out).mono ?_;rintro ee w2 ⟨rfl,B⟩;clear xX5;replace XR:=XR.b B;replace HB:=Hqb HB B;clear B;clear hb
 go_wp2_with fail
 refine(yInf (s:=!up) HR.out).mono ?_;rintro ee w3 ⟨K1,s1,M1,E1,rfl,q1,B⟩;replace XR:=XR.b B;replace HB:=Hqb HB B;clear B;have xXR:=XR.cell;have zXR0:=XR.frozen;go_wp2;clear xXR zXR0;have SX:=StN.t4 XR K1 s1 M1 E1;exact bq (by simp[results,Tryz.results170,go_sem,SX.box.cell]) rfl ⟨_,_,_,_,rfl,q1,(SX.below HB.out (by omega))⟩
theorem jratio_l{w:World}{A B:Option Addr}{n c m d α β:Nat}{s t up:Bool}{e r:Int}(ha:Rd w A n c α)(hb:Rd w B m d β)(hn:n<=3500)(hm:m<=3500)(e1: -2200000<=e)(e2:e<=2200000){Q R:Nat}(h0:0 < β)(hQ:α*2^(70+blen β) /β=Q)(hR:α*2^(70+blen β)%β=R)(hz:R≠0)(hr:Sid up (sgi (s !=t) ((α:Int)*2^(e+(KK:Int)).toNat)) (β:Int) r):Calls Tryz.prog 170 #[.agg #[.bool s,.slice A n c],.agg #[.bool t,.slice B m d],.int .i64 e,.bool up] w (PN w r):=by
 have hbl:=hb.blen_le;obtain⟨by_,hby⟩:∃k:Nat,70+blen β=k:=⟨_,rfl⟩;obtain⟨κ,hκ⟩:∃κ:Nat,κ=500000:=⟨_,rfl⟩;have hsmall:=stk_small h0 hby.symm ha.bound hb.bound hn hm hκ;have hside:=ratio_side (σ:=(s !=t)) (up:=up) (e:=e) h0 hby.symm hκ hsmall (by omega) (by omega);have hru:=hside.uniq (by omega) hr;rw[hby]at hQ hR;rw[hQ,hR]at hru;obtain⟨S,hS⟩:∃S,stk Q R=S:=⟨_,rfl⟩
 rw[hS,<-sg_sgi]at hru;obtain⟨X,hX⟩:∃X,α*2^by_=X:=⟨_,rfl⟩;rw[hX]at hQ hR;obtain⟨b,hb2⟩:∃b:Int,(by_:Int)=b:=⟨_,rfl⟩;rw[hb2]at hru;obtain⟨L,hL⟩:∃L:Int,((blen β:Nat):Int)=L:=⟨_,rfl⟩
 have hLb:70+L=b:=by omega
 have hb3:70<=b/\b<=200000:=by omega
 obtain⟨P,hP⟩:∃P,mk (sg (s !=t) S) (e-b-1)=P:=⟨_,rfl⟩;rw[hP]at hru
 have hPn:mk P.1 P.2=P:=by rw[<-hP];exact mk_nf _ _
 have HRR:=ie (show rnd up (mk P.1 P.2).1 (mk P.1 P.2).2=r by rw[hPn];exact hru)
 have HP1:Hid ((mk (sg (!(s==t)) S) (e-b-1)).1=P.1):=ie (by rw[<-hP];rfl)
 have HP2:Hid ((mk (sg (!(s==t)) S) (e-b-1)).2=P.2):=ie (by rw[<-hP];rfl)
 have HL:=ie hL
 have HW1:Hid (IntKind.i64.wrap (70+L)=b):=ie (by rw[hLb];exact IntWalk.i64_in _ (by omega))
 have HW2:=iw (e-b);have HW3:=iw (e-b-1)
 have hbt:b.toNat=by_:=by omega
 have HX:Hid (α*2^b.toNat=X):=ie (by rw[hbt];exact hX)
 have HQ:=ie hQ;have HRM:=ie hR;have HST:=ie hS
 have hn0:β≠0:=by omega
 obtain⟨σ,hσ⟩:∃σ,cmpI (sg t β) 0=σ:=⟨_,rfl⟩
 have hs0:(σ==0)=false:=by
  have:σ≠0:=by
   rw[<-hσ]
   rcases sg_cases t β with⟨a,_⟩ | ⟨_,_,a⟩ | ⟨_,_,a⟩
   ·omega
   ·rw[a];decide
   ·rw[a];decide
  simpa using this
 have HS:=ie hσ
 have hXn:n+b.toNat/32+1<=20000:=by omega
 clear hside hr hru hsmall hbl hL hLb hX hb2 hP hPn hQ hR hS hby hκ hbt hσ
 go_enter Tryz.func170,Tryz.ntmps170
 go_upto_region 1 with (fail)
 generalize hW1:((w.alloc _).alloc _).alloc _=w1 at *;obtain⟨X4,X5,XR,HB⟩:=Bo.en3 hW1;replace ha:=ha.below HB.out;replace hb:=hb.below HB.out;clear hW1;have xX5:=X5.cell
 go_wp2_with fail
 refine(qSign (hb.wr t) HS.out).mono ?_;rintro ee w2 ⟨rfl,B⟩;clear xX5;replace X4:=X4.b B;replace X5:=X5.b B;replace XR:=XR.b B;replace ha:=ha.b B;replace hb:=hb.b B;replace HB:=Hqb HB B;clear B;have xX5:=X5.cell
 go_wp2_with fail
 refine(rLen hb HL.out).mono ?_;rintro ee w3 ⟨rfl,B⟩;clear xX5;replace X4:=X4.b B;replace X5:=X5.b B;replace XR:=XR.b B;replace ha:=ha.b B;replace hb:=hb.b B;replace HB:=Hqb HB B;clear B;have hw1:=HW1.out
 go_upto_region 4 with (fail)
 clear hw1;refine jk [0,1,2,3,4,5,6,7,8,9,10,11,12,13] [some 25,some 26,some 27,some 28,some 29,some 30,some 31,some 24,some 32,some 33,some 34,some 10,some 11,some 12] [[],[0],[],[1,2],[],[4],[3,5],[6],[7],[7],[7],[8],[9],[10]] 14 0 [Jo.qp w.heap.size 1,Jo.Fact.eq (.slice A n c),Jo.qi b,Jo.Fact.nm X 20000,Jo.qp (w.heap.size+1) 1,Jo.Fact.eq (.slice B m d),Jo.Fact.dv Q R 20000,Jo.Fact.dv Q R 20000,Jo.Fact.nm Q 20000,Jo.Fact.nmA R,Jo.qb true,Jo.Fact.nm Q 20000,Jo.Fact.nmA R,Jo.qb true] ?_ ?_
 ·refine jm ?_ ?_;rotate_left
  refine jm ?_ ?_
  ·rintro wj hJ _ rfl K hK;simp only[Jo.z]at hK|-;have xX41:=(X4.b hJ).a 1 (.slice A n c) rfl;go_simp;exact hK.out _ _ rfl (br _ _)
  refine jm ?_ ?_;rotate_left
  refine jm ?_ ?_
  ·rintro wj hJ _ rfl _ rfl K hK;simp only[Jo.z]at hK|-;go_simp;refine(rShlN (z:=b) (ha.b hJ) (by omega) (by omega) (by omega) HX.out).mono ?_;rintro ee wk ⟨A3,n3,c3,rfl,p3,k3,B⟩;exact hK.out _ _ ⟨A3,n3,c3,rfl,p3,Nat.le_trans k3 hXn⟩ B
  refine jm ?_ ?_;rotate_left
  refine jm ?_ ?_
  ·rintro wj hJ _ rfl K hK;simp only[Jo.z]at hK|-;have xX51:=(X5.b hJ).a 1 (.slice B m d) rfl;go_simp;exact hK.out _ _ rfl (br _ _)
  refine jm ?_ ?_
  ·rintro wj hJ _ ⟨A3,n3,c3,rfl,p3,k3⟩ _ rfl K hK;simp only[Jo.z]at hK|-;go_simp;refine(jDivE p3.rd (hb.b hJ) (by omega) (by omega) hn0 HQ.out HRM.out).mono ?_;rintro ee wk ⟨A6,n6,c6,B6,m6,d6_,rfl,p6,r6,k6,l6,B⟩;exact hK.out _ _ ⟨A6,n6,c6,B6,m6,d6_,rfl,p6,r6,Nat.le_trans k6 k3⟩ B
  refine jm ?_ ?_
  ·rintro wj hJ _ ⟨A6,n6,c6,B6,m6,d6_,rfl,p6,r6,k6⟩ K hK;simp only[Jo.z]at hK|-;go_simp;exact hK.out _ _ ⟨A6,n6,c6,B6,m6,d6_,rfl,p6,r6,k6⟩ (br _ _)
  refine jm ?_ ?_
  ·rintro wj hJ _ ⟨A6,n6,c6,B6,m6,d6_,rfl,p6,r6,k6⟩ K hK;simp only[Jo.z]at hK|-;go_simp;exact hK.out _ _ ⟨A6,n6,c6,rfl,p6,k6⟩ (br _ _)
  refine jm ?_ ?_
  ·rintro wj hJ _ ⟨A6,n6,c6,B6,m6,d6_,rfl,p6,r6,k6⟩ K hK;simp only[Jo.z]at hK|-;go_simp;exact hK.out _ _ ⟨B6,m6,d6_,rfl,r6⟩ (br _ _)
  refine jm ?_ ?_
  ·rintro wj hJ _ ⟨A6,n6,c6,B6,m6,d6_,rfl,p6,r6,k6⟩ K hK;simp only[Jo.z]at hK|-;go_simp;exact hK.out _ _ rfl (br _ _)
  refine jm ?_ ?_
  ·rintro wj hJ _ ⟨A8,n8,c8,rfl,p8,k8⟩ K hK;simp only[Jo.z]at hK|-;go_simp;exact hK.out _ _ ⟨A8,n8,c8,rfl,p8,k8⟩ (br _ _)
  refine jm ?_ ?_
  ·rintro wj hJ _ ⟨A9,n9,c9,rfl,p9⟩ K hK;simp only[Jo.z]at hK|-;go_simp;exact hK.out _ _ ⟨A9,n9,c9,rfl,p9⟩ (br _ _)
  refine jm ?_ ?_;rotate_left
  exact jo
  all_goals (rintro wj hJ;(repeat rintro _ rfl);intro K hK;simp only[Jo.z]at hK|-;go_simp;exact hK.out _ _ rfl (br _ _))
 rintro w4 hJ _ _ _ rfl _ rfl _ ⟨_,_,_,rfl,_⟩ _ _ _ rfl _ ⟨_,_,_,_,_,_,rfl,_⟩ _ ⟨_,_,_,_,_,_,rfl,_⟩ _ ⟨_,_,_,rfl,_⟩ _ ⟨_,_,_,rfl,_⟩ _ rfl _ ⟨A11,n11,c11,rfl,p11,k11⟩ _ ⟨A12,n12,c12,rfl,p12⟩ _ rfl -;simp only[Jo.z];replace X4:=X4.b hJ;replace X5:=X5.b hJ;replace XR:=XR.b hJ;replace HB:=Hqb HB hJ;refine jd ?_
 clear ha hb
 have hpos:0 < n12:=by have:=p12.pos;omega
 have hgt:(0:Int) < n12:=by omega
 have hlen:n12<=1099511627776:=p12.rd.big
 clear p12
 go_wp2_with fail
 refine(jSticky (d:=R) (cut:=true) p11.rd (by omega) (dt hz) HST.out).mono ?_;rintro ee w5 ⟨A5,n5,c5,rfl,p5,k5,B⟩;replace X4:=X4.b B;replace X5:=X5.b B;replace XR:=XR.b B;replace HB:=Hqb HB B;clear B;clear p11;have xX4:=X4.cell;have xX5:=X5.cell
 go_wp2_with fail
 refine(qMake (!(s==t)) p5.rd).mono ?_;rintro ee w6 ⟨s7,A7,n7,c7,rfl,p7,k7,B⟩;clear xX4 xX5;replace XR:=XR.b B;replace HB:=Hqb HB B;clear B;clear p5;have hw2:=HW2.out;have hw3:=HW3.out
 go_wp2_with fail
 refine(q3Make p7.wr (by omega) HP1.out HP2.out).mono ?_;rintro ee w7 ⟨s8,A8,n8,c8,rfl,p8,k8,B⟩;replace XR:=XR.b B;replace HB:=Hqb HB B;clear B;clear p7 hw2 hw3
 go_wp2_with fail
 refine(yRound p8.wr (by omega) rfl rfl HRR.out).mono ?_;rintro ee w8 ⟨K9,s9,M9,E9,rfl,q9,B⟩;replace XR:=XR.b B;replace HB:=Hqb HB B;clear B;have xXR:=XR.cell;have zXR0:=XR.frozen;go_wp2;clear xXR zXR0;have SX:=StN.t4 XR K9 s9 M9 E9;exact bq (by simp[results,Tryz.results170,go_sem,SX.box.cell]) rfl ⟨_,_,_,_,rfl,q9,(SX.below HB.out (by omega))⟩
theorem jratio_e{w:World}{A B:Option Addr}{n c m d α β:Nat}{s t up:Bool}{e r:Int}(ha:Rd w A n c α)(hb:Rd w B m d β)(hn:n<=3500)(hm:m<=3500)(e1: -2200000<=e)(e2:e<=2200000){Q R:Nat}(h0:0 < β)(hQ:α*2^(70+blen β) /β=Q)(hR:α*2^(70+blen β)%β=R)(hz:R=0)(hr:Sid up (sgi (s !=t) ((α:Int)*2^(e+(KK:Int)).toNat)) (β:Int) r):Calls Tryz.prog 170 #[.agg #[.bool s,.slice A n c],.agg #[.bool t,.slice B m d],.int .i64 e,.bool up] w (PN w r):=by
 have hbl:=hb.blen_le;obtain⟨by_,hby⟩:∃k:Nat,70+blen β=k:=⟨_,rfl⟩;obtain⟨κ,hκ⟩:∃κ:Nat,κ=500000:=⟨_,rfl⟩;have hsmall:=stk_small h0 hby.symm ha.bound hb.bound hn hm hκ;have hside:=ratio_side (σ:=(s !=t)) (up:=up) (e:=e) h0 hby.symm hκ hsmall (by omega) (by omega);have hru:=hside.uniq (by omega) hr;rw[hby]at hQ hR;rw[hQ,hR]at hru;obtain⟨S,hS⟩:∃S,stk Q R=S:=⟨_,rfl⟩
 rw[hS,<-sg_sgi]at hru;obtain⟨X,hX⟩:∃X,α*2^by_=X:=⟨_,rfl⟩;rw[hX]at hQ hR;obtain⟨b,hb2⟩:∃b:Int,(by_:Int)=b:=⟨_,rfl⟩;rw[hb2]at hru;obtain⟨L,hL⟩:∃L:Int,((blen β:Nat):Int)=L:=⟨_,rfl⟩
 have hLb:70+L=b:=by omega
 have hb3:70<=b/\b<=200000:=by omega
 obtain⟨P,hP⟩:∃P,mk (sg (s !=t) S) (e-b-1)=P:=⟨_,rfl⟩;rw[hP]at hru
 have hPn:mk P.1 P.2=P:=by rw[<-hP];exact mk_nf _ _
 have HRR:=ie (show rnd up (mk P.1 P.2).1 (mk P.1 P.2).2=r by rw[hPn];exact hru)
 have HP1:Hid ((mk (sg (!(s==t)) S) (e-b-1)).1=P.1):=ie (by rw[<-hP];rfl)
 have HP2:Hid ((mk (sg (!(s==t)) S) (e-b-1)).2=P.2):=ie (by rw[<-hP];rfl)
 have HL:=ie hL
 have HW1:Hid (IntKind.i64.wrap (70+L)=b):=ie (by rw[hLb];exact IntWalk.i64_in _ (by omega))
 have HW2:=iw (e-b);have HW3:=iw (e-b-1)
 have hbt:b.toNat=by_:=by omega
 have HX:Hid (α*2^b.toNat=X):=ie (by rw[hbt];exact hX)
 have HQ:=ie hQ;have HRM:=ie hR;have HST:=ie hS
 have hn0:β≠0:=by omega
 obtain⟨σ,hσ⟩:∃σ,cmpI (sg t β) 0=σ:=⟨_,rfl⟩
 have hs0:(σ==0)=false:=by
  have:σ≠0:=by
   rw[<-hσ]
   rcases sg_cases t β with⟨a,_⟩ | ⟨_,_,a⟩ | ⟨_,_,a⟩
   ·omega
   ·rw[a];decide
   ·rw[a];decide
  simpa using this
 have HS:=ie hσ
 have hXn:n+b.toNat/32+1<=20000:=by omega
 clear hside hr hru hsmall hbl hL hLb hX hb2 hP hPn hQ hR hS hby hκ hbt hσ
 go_enter Tryz.func170,Tryz.ntmps170
 go_upto_region 1 with (fail)
 generalize hW1:((w.alloc _).alloc _).alloc _=w1 at *;obtain⟨X4,X5,XR,HB⟩:=Bo.en3 hW1;replace ha:=ha.below HB.out;replace hb:=hb.below HB.out;clear hW1;have xX5:=X5.cell
 go_wp2_with fail
 refine(qSign (hb.wr t) HS.out).mono ?_;rintro ee w2 ⟨rfl,B⟩;clear xX5;replace X4:=X4.b B;replace X5:=X5.b B;replace XR:=XR.b B;replace ha:=ha.b B;replace hb:=hb.b B;replace HB:=Hqb HB B;clear B;have xX5:=X5.cell
 go_wp2_with fail
 refine(rLen hb HL.out).mono ?_;rintro ee w3 ⟨rfl,B⟩;clear xX5;replace X4:=X4.b B;replace X5:=X5.b B;replace XR:=XR.b B;replace ha:=ha.b B;replace hb:=hb.b B;replace HB:=Hqb HB B;clear B;have hw1:=HW1.out
 go_upto_region 4 with (fail)
 clear hw1;refine jk [0,1,2,3,4,5,6,7,8,9,10,11,12,13] [some 25,some 26,some 27,some 28,some 29,some 30,some 31,some 24,some 32,some 33,some 34,some 10,some 11,some 12] [[],[0],[],[1,2],[],[4],[3,5],[6],[7],[7],[7],[8],[9],[10]] 14 0 [Jo.qp w.heap.size 1,Jo.Fact.eq (.slice A n c),Jo.qi b,Jo.Fact.nm X 20000,Jo.qp (w.heap.size+1) 1,Jo.Fact.eq (.slice B m d),Jo.Fact.dv Q R 20000,Jo.Fact.dv Q R 20000,Jo.Fact.nm Q 20000,Jo.Fact.nmA R,Jo.qb true,Jo.Fact.nm Q 20000,Jo.Fact.nmA R,Jo.qb true] ?_ ?_
 ·refine jm ?_ ?_;rotate_left
  refine jm ?_ ?_
  ·rintro wj hJ _ rfl K hK;simp only[Jo.z]at hK|-;have xX41:=(X4.b hJ).a 1 (.slice A n c) rfl;go_simp;exact hK.out _ _ rfl (br _ _)
  refine jm ?_ ?_;rotate_left
  refine jm ?_ ?_
  ·rintro wj hJ _ rfl _ rfl K hK;simp only[Jo.z]at hK|-;go_simp;refine(rShlN (z:=b) (ha.b hJ) (by omega) (by omega) (by omega) HX.out).mono ?_;rintro ee wk ⟨A3,n3,c3,rfl,p3,k3,B⟩;exact hK.out _ _ ⟨A3,n3,c3,rfl,p3,Nat.le_trans k3 hXn⟩ B
  refine jm ?_ ?_;rotate_left
  refine jm ?_ ?_
  ·rintro wj hJ _ rfl K hK;simp only[Jo.z]at hK|-;have xX51:=(X5.b hJ).a 1 (.slice B m d) rfl;go_simp;exact hK.out _ _ rfl (br _ _)
  refine jm ?_ ?_
  ·rintro wj hJ _ ⟨A3,n3,c3,rfl,p3,k3⟩ _ rfl K hK;simp only[Jo.z]at hK|-;go_simp;refine(jDivE p3.rd (hb.b hJ) (by omega) (by omega) hn0 HQ.out HRM.out).mono ?_;rintro ee wk ⟨A6,n6,c6,B6,m6,d6_,rfl,p6,r6,k6,l6,B⟩;exact hK.out _ _ ⟨A6,n6,c6,B6,m6,d6_,rfl,p6,r6,Nat.le_trans k6 k3⟩ B
  refine jm ?_ ?_
  ·rintro wj hJ _ ⟨A6,n6,c6,B6,m6,d6_,rfl,p6,r6,k6⟩ K hK;simp only[Jo.z]at hK|-;go_simp;exact hK.out _ _ ⟨A6,n6,c6,B6,m6,d6_,rfl,p6,r6,k6⟩ (br _ _)
  refine jm ?_ ?_
  ·rintro wj hJ _ ⟨A6,n6,c6,B6,m6,d6_,rfl,p6,r6,k6⟩ K hK;simp only[Jo.z]at hK|-;go_simp;exact hK.out _ _ ⟨A6,n6,c6,rfl,p6,k6⟩ (br _ _)
  refine jm ?_ ?_
  ·rintro wj hJ _ ⟨A6,n6,c6,B6,m6,d6_,rfl,p6,r6,k6⟩ K hK;simp only[Jo.z]at hK|-;go_simp;exact hK.out _ _ ⟨B6,m6,d6_,rfl,r6⟩ (br _ _)
  refine jm ?_ ?_
  ·rintro wj hJ _ ⟨A6,n6,c6,B6,m6,d6_,rfl,p6,r6,k6⟩ K hK;simp only[Jo.z]at hK|-;go_simp;exact hK.out _ _ rfl (br _ _)
  refine jm ?_ ?_
  ·rintro wj hJ _ ⟨A8,n8,c8,rfl,p8,k8⟩ K hK;simp only[Jo.z]at hK|-;go_simp;exact hK.out _ _ ⟨A8,n8,c8,rfl,p8,k8⟩ (br _ _)
  refine jm ?_ ?_
  ·rintro wj hJ _ ⟨A9,n9,c9,rfl,p9⟩ K hK;simp only[Jo.z]at hK|-;go_simp;exact hK.out _ _ ⟨A9,n9,c9,rfl,p9⟩ (br _ _)
  refine jm ?_ ?_;rotate_left
  exact jo
  all_goals (rintro wj hJ;(repeat rintro _ rfl);intro K hK;simp only[Jo.z]at hK|-;go_simp;exact hK.out _ _ rfl (br _ _))
 rintro w4 hJ _ _ _ rfl _ rfl _ ⟨_,_,_,rfl,_⟩ _ _ _ rfl _ ⟨_,_,_,_,_,_,rfl,_⟩ _ ⟨_,_,_,_,_,_,rfl,_⟩ _ ⟨_,_,_,rfl,_⟩ _ ⟨_,_,_,rfl,_⟩ _ rfl _ ⟨A11,n11,c11,rfl,p11,k11⟩ _ ⟨A12,n12,c12,rfl,p12⟩ _ rfl -;simp only[Jo.z];replace X4:=X4.b hJ;replace X5:=X5.b hJ;replace XR:=XR.b hJ;replace HB:=Hqb HB hJ;refine jd ?_
 clear ha hb;subst hz
 obtain rfl:n12=0:=by have:=p12.pos;omega
 clear p12
 go_wp2_with fail
 refine(jSticky (d:=0) (cut:=false) p11.rd (by omega) (by decide) HST.out).mono ?_;rintro ee w5 ⟨A5,n5,c5,rfl,p5,k5,B⟩;replace X4:=X4.b B;replace X5:=X5.b B;replace XR:=XR.b B;replace HB:=Hqb HB B;clear B;clear p11;have xX4:=X4.cell;have xX5:=X5.cell
 go_wp2_with fail
 refine(qMake (!(s==t)) p5.rd).mono ?_;rintro ee w6 ⟨s7,A7,n7,c7,rfl,p7,k7,B⟩;clear xX4 xX5;replace XR:=XR.b B;replace HB:=Hqb HB B;clear B;clear p5;have hw2:=HW2.out;have hw3:=HW3.out
 go_wp2_with fail
 refine(q3Make p7.wr (by omega) HP1.out HP2.out).mono ?_;rintro ee w7 ⟨s8,A8,n8,c8,rfl,p8,k8,B⟩;replace XR:=XR.b B;replace HB:=Hqb HB B;clear B;clear p7 hw2 hw3
 go_wp2_with fail
 refine(yRound p8.wr (by omega) rfl rfl HRR.out).mono ?_;rintro ee w8 ⟨K9,s9,M9,E9,rfl,q9,B⟩;replace XR:=XR.b B;replace HB:=Hqb HB B;clear B;have xXR:=XR.cell;have zXR0:=XR.frozen;go_wp2;clear xXR zXR0;have SX:=StN.t4 XR K9 s9 M9 E9;exact bq (by simp[results,Tryz.results170,go_sem,SX.box.cell]) rfl ⟨_,_,_,_,rfl,q9,(SX.below HB.out (by omega))⟩
theorem jRatio0{w:World}{A B:Option Addr}{n c m d α β:Nat}{s t up:Bool}{e r:Int}(ha:Rd w A n c α)(hb:Rd w B m d β)(hn:n<=3500)(hm:m<=3500)(e1: -2200000<=e)(e2:e<=2200000)(h0:0 < β)(hr:Sid up (sgi (s !=t) ((α:Int)*2^(e+(KK:Int)).toNat)) (β:Int) r):Calls Tryz.prog 170 #[.agg #[.bool s,.slice A n c],.agg #[.bool t,.slice B m d],.int .i64 e,.bool up] w (PN w r):=by
 by_cases hz:α*2^(70+blen β)%β=0
 ·exact jratio_e ha hb hn hm e1 e2 h0 rfl rfl hz hr
 ·exact jratio_l ha hb hn hm e1 e2 h0 rfl rfl hz hr
theorem jRatio{w:World}{A B:Option Addr}{n c m d:Nat}{s t up:Bool}{z y r:Int}(h:Wr w s A n c z)(k:Wr w t B m d y)(hn:n<=3500)(hm:m<=3500)(hr:Rq up z y r):Calls Tryz.prog 205 #[.agg #[.bool s,.slice A n c],.agg #[.bool t,.slice B m d],.bool up] w (PN w r):=by
 obtain⟨α,ha,hz⟩:=h;obtain⟨β,hb,hy⟩:=k
 have hside:(β=0/\sgi (!up) TP=r)\/(0 < β/\Sid up (sgi (s !=t) ((α:Int)*2^(0+(KK:Int)).toNat)) (β:Int) r):=by
  rw[sg_sgi]at hz hy
  rcases Nat.eq_zero_or_pos β with e | e
  ·left
   subst e
   have:y=0:=by rw[<-hy];cases t <;> rfl
   subst this;exact⟨rfl,(rq_none.1 hr).symm⟩
  ·right
   obtain⟨r',hr'⟩:=sid_ex up (sgi (s !=t) ((α:Int)*2^(0+(KK:Int)).toNat)) (show (0:Int) < (β:Int) by omega)
   have:=rq_of e hr'
   rw[hz,hy]at this;rw[hr.uniq this];exact⟨e,hr'⟩
 clear hz hy hr
 go_enter Tryz.func205,Tryz.ntmps205
 go_upto_region 1 with (fail)
 generalize hW1:((w.alloc _).alloc _).alloc _=w1 at *;obtain⟨X3,X4,XR,HB⟩:=Bo.en3 hW1;replace ha:=ha.below HB.out;replace hb:=hb.below HB.out;clear hW1
 rcases hside with⟨h0,hr⟩ | ⟨h0,hr⟩
 ·have xX3:=X3.cell;have xX4:=X4.cell
  go_wp2_with fail
  refine(jratio_z ha hb hn hm (by decide) (by decide) h0 hr).mono ?_;rintro ee w2 ⟨K1,s1,M1,E1,rfl,q1,B⟩;clear xX3 xX4;replace X3:=X3.b B;replace X4:=X4.b B;replace XR:=XR.b B;replace ha:=ha.b B;replace hb:=hb.b B;replace HB:=Hqb HB B;clear B;have xXR:=XR.cell;have zXR0:=XR.frozen;go_wp2;clear xXR zXR0
  have SX:=StN.t4 XR K1 s1 M1 E1;exact bq (by simp[results,Tryz.results205,go_sem,SX.box.cell]) rfl ⟨_,_,_,_,rfl,q1,(SX.below HB.out (by omega))⟩
 ·have HR:=ie hr;clear hr;have xX3:=X3.cell;have xX4:=X4.cell
  go_wp2_with fail
  refine(jRatio0 ha hb hn hm (by decide) (by decide) h0 HR.out).mono ?_;rintro ee w2 ⟨K1,s1,M1,E1,rfl,q1,B⟩;clear xX3 xX4;replace XR:=XR.b B;replace HB:=Hqb HB B;clear B;have xXR:=XR.cell;have zXR0:=XR.frozen;go_wp2;clear xXR zXR0;have SX:=StN.t4 XR K1 s1 M1 E1
  exact bq (by simp[results,Tryz.results205,go_sem,SX.box.cell]) rfl ⟨_,_,_,_,rfl,q1,(SX.below HB.out (by omega))⟩
def Ro (up:Bool)(x r:Int)(t:Bool):Prop:=if x < 0 then r=0/\t=false else if x=0\/infp x=true then r=x/\t=true else Rt up (vr x*2^KK) r/\t=true
theorem ro_neg{up:Bool}{x r:Int}{t:Bool}(h:x < 0):Ro up x r t↔(r=0/\t=false):=by
 unfold Ro
 rw[if_pos h]
theorem ro_it{up:Bool}{x r:Int}{t:Bool}(h:¬x < 0)(h2:x=0\/infp x=true):Ro up x r t↔(r=x/\t=true):=by
 unfold Ro
 rw[if_neg h,if_pos h2]
theorem ro_fin{up:Bool}{x r:Int}{t:Bool}(h:¬x < 0)(h2:¬(x=0\/infp x=true)):Ro up x r t↔(Rt up (vr x*2^KK) r/\t=true):=by
 unfold Ro
 rw[if_neg h,if_neg h2]
theorem Ro.uniq{up:Bool}{x r r':Int}{t t':Bool}(h:Ro up x r t)(k:Ro up x r' t'):r=r'/\t=t':=by
 by_cases c:x < 0
 ·obtain⟨a,b⟩:=(ro_neg c).1 h;obtain⟨d,e⟩:=(ro_neg c).1 k;exact⟨a.trans d.symm,b.trans e.symm⟩
 ·by_cases c2:x=0\/infp x=true
  ·obtain⟨a,b⟩:=(ro_it c c2).1 h;obtain⟨d,e⟩:=(ro_it c c2).1 k;exact⟨a.trans d.symm,b.trans e.symm⟩
  ·obtain⟨a,b⟩:=(ro_fin c c2).1 h;obtain⟨d,e⟩:=(ro_fin c c2).1 k;exact⟨a.uniq d,b.trans e.symm⟩
def RF (r:Bool->Int->Int):Prop:=∀up x,0<=x->Ro up x (r up x) true
theorem Rt.mono9{up:Bool}{X Y r t:Int}(h:Rt up X r)(k:Rt up Y t)(hXY:X<=Y):r<=t:=by
 rcases Int.lt_or_le t r with c | c
 ·exfalso
  cases up
  ·obtain⟨h1,h2,h3,h4⟩:=rt_f.1 h;obtain⟨k1,k2,k3,k4⟩:=rt_f.1 k;have a:=k4 (by omega);have b:=vr_sq (r:=t+1) (t:=r) (by omega) (by omega)
   omega
  ·obtain⟨h1,h2,h3,h4⟩:=rt_t.1 h;obtain⟨k1,k2,k3,k4⟩:=rt_t.1 k;have a:=k3 (by omega);have b:=vr_sq (r:=t) (t:=r-1) (by omega) (by omega)
   omega
 ·exact c
theorem infp_top:infp 19342822337206103650074625=true:=by decide
section
variable {r:Bool->Int->Int}
theorem RF.zero (hr:RF r)(up:Bool):r up 0=0:=((ro_it (by decide) (.inl rfl)).1 (hr up 0 (by decide))).1
theorem RF.top (hr:RF r)(up:Bool):r up 19342822337206103650074625=19342822337206103650074625:=((ro_it (by decide) (.inr infp_top)).1 (hr up _ (by decide))).1
theorem RF.fin (hr:RF r)(up:Bool){x:Int}(h0:0 < x)(h1:x < 19342822337206103650074625):Rt up (vr x*2^KK) (r up x):=
 ((ro_fin (by omega) (by rw[infp_fin (by omega) h1];simp;omega)).1 (hr up x (by omega))).1
theorem RF.in (hr:RF r)(up:Bool){x:Int}(h0:0<=x)(h1:x<=19342822337206103650074625):0<=r up x/\r up x<=19342822337206103650074625:=by
 by_cases c:x=0
 ·subst c;rw[hr.zero]
  decide
 ·by_cases d:x=19342822337206103650074625
  ·subst d;rw[hr.top]
   decide
  ·have:=hr.fin up (x:=x) (by omega) (by omega)
   cases up
   ·have:=rt_f.1 this
    omega
   ·have:=rt_t.1 this
    omega
theorem RF.mono (hr:RF r)(up:Bool){x y:Int}(h0:0<=x)(h:x<=y)(h1:y<=19342822337206103650074625):r up x<=r up y:=by
 have X:=hr.in up h0 (by omega)
 have Y:=hr.in up (show 0<=y by omega) h1
 by_cases c:x=0
 ·subst c;rw[hr.zero]
  omega
 ·by_cases d:y=19342822337206103650074625
  ·subst d;rw[hr.top]
   omega
  ·exact(hr.fin up (by omega) (by omega)).mono9 (hr.fin up (by omega) (by omega)) (Int.mul_le_mul_of_nonneg_right (vr_le h) (Int.le_of_lt (p2pos KK)))
end
section
variable {r:Bool->Int->Int}
end
theorem In.fin{x:Int}(h1: -19342822337206103650074625 < x)(h2:x < 19342822337206103650074625):In x:=⟨by omega,by omega⟩
theorem opl_le{a b:Int}(h1: -9223372036854775808<=a)(h:a<=b)(h2:b<=9223372036854775807):opl a<=opl b:=by
 have c:=opl_cmp (a:=a) (b:=b) h1 (by omega) (by omega) h2
 rcases cmpI_tri (opl a) (opl b)with ⟨p,e⟩ | ⟨p,e⟩ | ⟨p,e⟩
 ·omega
 ·omega
 ·rw[e]at c
  rcases cmpI_tri a b with⟨s,f⟩ | ⟨s,f⟩ | ⟨s,f⟩ <;> omega
theorem opl_fin{a:Int}(h1: -9223372036854775807<=a)(h2:a<=9223372036854775807): -19342822337206103650074625 < opl a/\opl a < 19342822337206103650074625:=by
 rcases Int.lt_or_le 0 a with c | c
 ·have:=opl_pos c h2
  omega
 ·by_cases d:a=0
  ·subst d
   decide
  ·have:=opl_pos (n:= -a) (by omega) (by omega)
   rw[opl_neg]at this
   omega
theorem opl_add{a b:Int}(up:Bool)(h1: -1000000000000000000<=a)(h2:a<=1000000000000000000)(h3: -1000000000000000000<=b)(h4:b<=1000000000000000000):addp up (opl a) (opl b)=opl (a+b):=by
 obtain⟨a1,a2⟩:=opl_fin (a:=a) (by omega) (by omega);obtain⟨b1,b2⟩:=opl_fin (a:=b) (by omega) (by omega);obtain⟨c1,c2⟩:=opl_fin (a:=a+b) (by omega) (by omega);rw[addp_ff up (infp_fin a1 a2) (infp_fin b1 b2)];obtain⟨nf,v⟩:=sum_spec a1 a2 b1 b2;refine rnd_exact nf up c1 c2 ?_;rw[v,opl_vr (by omega) (by omega),opl_vr (by omega) (by omega),opl_vr (by omega) (by omega),Int.add_mul]
end Go.Proofs.YtomikokonmikgaaGreatDoor
namespace Go.Proofs.YtomikokonmikgaaGreatDoor
open Go Go.RowKit
set_option linter.unusedVariables false
theorem radd{a b c d:Rat}(h:a<=b)(k:c<=d):a+c<=b+d:=by grind
def BR:Rat:=((2^KK:Int):Rat)
theorem br_pos:(0:Rat) < BR:=Rat.intCast_lt_intCast.2 (p2pos KK)
def LoR (v:Rat)(x:Sp):Prop:=match x with
 | none=>False
 | some (a,_)=>a= -19342822337206103650074625\/((vr a:Int):Rat)<=v*BR
def HiR (v:Rat)(x:Sp):Prop:=match x with
 | none=>False
 | some (_,b)=>b=19342822337206103650074625\/v*BR<=((vr b:Int):Rat)
def FinI (x:Sp):Prop:=match x with
 | none=>False
 | some (a,b)=>a<=b/\ -19342822337206103650074625 < a/\b < 19342822337206103650074625
theorem FinI.ok{x:Sp}(h:FinI x):SpOk x:=by
 rcases x with _ | ⟨a,b⟩
 ·exact trivial
 ·obtain⟨h1,h2,h3⟩:=h;exact⟨by omega,h1,by omega,by omega,by omega⟩
theorem LoR.mono{v w:Rat}{x:Sp}(h:LoR v x)(e:v<=w):LoR w x:=by
 rcases x with _ | ⟨a,b⟩
 ·exact h
 ·rcases h with h | h
  ·exact .inl h
  ·exact .inr (Rat.le_trans h (Rat.mul_le_mul_of_nonneg_right e (Rat.le_of_lt br_pos)))
theorem HiR.mono{v w:Rat}{x:Sp}(h:HiR v x)(e:w<=v):HiR w x:=by
 rcases x with _ | ⟨a,b⟩
 ·exact h
 ·rcases h with h | h
  ·exact .inl h
  ·exact .inr (Rat.le_trans (Rat.mul_le_mul_of_nonneg_right e (Rat.le_of_lt br_pos)) h)
theorem ends_le{a d:Int}{v:Rat}(ha: -19342822337206103650074625<=d)(hd:a<=19342822337206103650074625)(h:a= -19342822337206103650074625\/((vr a:Int):Rat)<=v*BR)(k:d=19342822337206103650074625\/v*BR<=((vr d:Int):Rat)):a<=d:=by
 rcases h with h | h
 ·omega
 ·rcases k with k | k
  ·omega
  ·rcases Int.lt_or_le d a with c | c
   ·exfalso
    have e:=vr_lt c;have f:=Rat.intCast_le_intCast.1 (Rat.le_trans h k)
    omega
   ·exact c
theorem has_R{p:Int}{x:Sp}(p1: -19342822337206103650074625 < p)(p2:p < 19342822337206103650074625){v:Rat}(e:v*BR=((vr p:Int):Rat))(hx:SpOk x)(h1:LoR v x)(h2:HiR v x):hasI x p=true:=by
 rcases x with _ | ⟨a,b⟩
 ·exact h1.elim
 obtain⟨A1,A2,A3,A4,A5⟩:=hx;have e1:=ends_le (d:=p) (by omega) (by omega) h1 (.inr (by rw[e];exact Rat.le_refl));have e2:=ends_le (a:=p) (by omega) (by omega) (.inr (by rw[e];exact Rat.le_refl)) h2;exact has_in p1 p2 e1 e2
abbrev SC:Int:=6277101735386680763835789423207666416102355444464034512896
def invG (n:Int):Nat->Nat->Int->Int->Int × Nat
 | 0,k,s,_=>(s,k)
 | f+1,k,s,p=>if SC/ (p*(2*(k:Int)+1))=0 then (s,k)else invG n f (k+1) (if k%2=1 then s+ -(SC/ (p*(2*(k:Int)+1)))else s+SC/ (p*(2*(k:Int)+1))) (p*(n*n))
def invN (n:Nat):Nat->Nat->Nat->Nat->Nat->Nat × Nat × Nat
 | 0,k,a,b,_=>(a,b,k)
 | f+1,k,a,b,p=>if 6277101735386680763835789423207666416102355444464034512896/ (p*(2*k+1))=0 then (a,b,k)else
   if k%2=1 then invN n f (k+1) a (b+6277101735386680763835789423207666416102355444464034512896/ (p*(2*k+1))) (p*(n*n))else invN n f (k+1) (a+6277101735386680763835789423207666416102355444464034512896/ (p*(2*k+1))) b (p*(n*n))
theorem div_cast (c p k:Nat):(c:Int) / ((p:Int)*(2*(k:Int)+1))=((c/ (p*(2*k+1)):Nat):Int):=by push_cast;rfl
theorem invG_N (n:Nat):∀(f k a b p:Nat),invG (n:Int) f k ((a:Int)-b) p=(((invN n f k a b p).1:Int)-(invN n f k a b p).2.1,(invN n f k a b p).2.2)
 | 0,k,a,b,p=>rfl
 | f+1,k,a,b,p=>by
  have e1:(SC/ ((p:Int)*(2*(k:Int)+1)))=((6277101735386680763835789423207666416102355444464034512896/ (p*(2*k+1)):Nat):Int):=div_cast 6277101735386680763835789423207666416102355444464034512896 p k
  have e2:(p:Int)*((n:Int)*n)=((p*(n*n):Nat):Int):=by push_cast;rfl
  unfold invG invN
  rw[e1,e2];generalize 6277101735386680763835789423207666416102355444464034512896/ (p*(2*k+1))=t
  by_cases h:t=0
  ·rw[if_pos h,if_pos (by omega)]
  ·rw[if_neg h,if_neg (by omega)]
   by_cases c:k%2=1
   ·rw[if_pos c,if_pos c,show (a:Int)-b+ -(t:Int)=(a:Int)-((b+t:Nat):Int) by push_cast;omega]
    exact invG_N n f _ _ _ _
   ·rw[if_neg c,if_neg c,show (a:Int)-b+(t:Int)=((a+t:Nat):Int)-(b:Int) by push_cast;omega]
    exact invG_N n f _ _ _ _
def invP (n:Int):Int × Int:=if n < 2\/1000 < n then (0,0)else ((invG n 200 0 0 n).1+(-((invG n 200 0 0 n).2:Int)-1),(invG n 200 0 0 n).1+(((invG n 200 0 0 n).2:Int)+1))
def invQ (n:Nat):Int × Int:=(((invN n 200 0 0 0 n).1:Int)-(invN n 200 0 0 0 n).2.1+(-((invN n 200 0 0 0 n).2.2:Int)-1),((invN n 200 0 0 0 n).1:Int)-(invN n 200 0 0 0 n).2.1+(((invN n 200 0 0 0 n).2.2:Int)+1))
theorem invP_Q{n:Nat}(h1:2<=n)(h2:n<=1000):invP (n:Int)=invQ n:=by
 have e:=invG_N n 200 0 0 0 n
 rw[show (((0:Nat):Int)-((0:Nat):Int))=0 from rfl]at e
 unfold invP invQ
 rw[if_neg (by omega),e]
theorem inv5:invQ 5=(1239072011291311913768300331356796477639936999957358576040,1239072011291311913768300331356796477639936999957358576122):=by kernel_rfl
theorem inv239:invQ 239=(26263870733613014474167984370118687693885283531911871163,26263870733613014474167984370118687693885283531911871189):=by kernel_rfl
abbrev PLo:Int:=19720096697726538562396133364228268891463450865190089731884
abbrev PHi:Int:=19720096697726538562396133364228268891463450865190089733300
theorem bounds_are:(invP 5).1*16-(invP 239).2*4=PLo/\(invP 5).2*16-(invP 239).1*4=PHi:=by
 have a:=invP_Q (n:=5) (by decide) (by decide);have b:=invP_Q (n:=239) (by decide) (by decide)
 rw[show (5:Int)=((5:Nat):Int)from rfl,show (239:Int)=((239:Nat):Int)from rfl,a,b,inv5,inv239]
 decide
def pev:List Int->Rat->Rat
 | [],_=>0
 | a::p,x=>(a:Rat)+x*pev p x
def padd:List Int->List Int->List Int
 | [],q=>q
 | a::p,[]=>a::p
 | a::p,b::q=>(a+b)::padd p q
def psc (c:Int):List Int->List Int
 | []=>[]
 | a::p=>(c*a)::psc c p
def pmul:List Int->List Int->List Int
 | [],_=>[]
 | a::p,q=>padd (psc a q) (0::pmul p q)
theorem pev_add:∀(p q:List Int) (x:Rat),pev (padd p q) x=pev p x+pev q x
 | [],q,x=>by simp only[padd,pev];grind
 | a::p,[],x=>by simp only[padd,pev];grind
 | a::p,b::q,x=>by
  simp only[padd,pev];rw[pev_add p q x,Rat.intCast_add]
  grind
theorem pev_sc (c:Int):∀(p:List Int) (x:Rat),pev (psc c p) x=(c:Rat)*pev p x
 | [],x=>by simp only[psc,pev];grind
 | a::p,x=>by
  simp only[psc,pev];rw[pev_sc c p x,Rat.intCast_mul]
  grind
theorem pev_mul:∀(p q:List Int) (x:Rat),pev (pmul p q) x=pev p x*pev q x
 | [],q,x=>by simp only[pmul,pev];grind
 | a::p,q,x=>by
  simp only[pmul,pev];rw[pev_add,pev_sc];simp only[pev];rw[pev_mul p q x]
  grind
def ptr (H K:Int):List Int->List Int
 | []=>[]
 | a::p=>padd [a*K^(p.length+1)] (padd (0::psc K (ptr H K p)) (psc H (ptr H K p)))
theorem pev_tr (H K:Int)(hK:(K:Rat)≠0):∀(p:List Int) (x:Rat),pev (ptr H K p) x=pev p (x+(H:Rat) /K)*(K:Rat)^p.length
 | [],x=>by simp only[ptr,pev];grind
 | a::p,x=>by
  simp only[ptr];rw[pev_add,pev_add,pev_sc];simp only[pev];rw[pev_sc,pev_tr H K hK p x,List.length_cons,Rat.pow_succ,Rat.intCast_mul,Rat.intCast_pow,Rat.pow_succ]
  have e:(H:Rat) /K*K=H:=Rat.div_mul_cancel hK
  generalize (H:Rat) /K=h at *;rw[<-e]
  grind
def pabs (B:Nat):List Int->Nat
 | []=>0
 | a::p=>a.natAbs+B*pabs B p
theorem mul_bd{b a x e:Rat}(h1: -b<=x)(h2:x<=b)(h3: -a<=e)(h4:e<=a): -(b*a)<=x*e/\x*e<=b*a:=by
 have k1:=Rat.mul_nonneg (a:=b-x) (b:=a+e) (by grind) (by grind);have k2:=Rat.mul_nonneg (a:=b+x) (b:=a-e) (by grind) (by grind);have k3:=Rat.mul_nonneg (a:=b-x) (b:=a-e) (by grind) (by grind);have k4:=Rat.mul_nonneg (a:=b+x) (b:=a+e) (by grind) (by grind)
 constructor <;> grind
theorem int_bd (a:Int): -((a.natAbs:Nat):Rat)<=(a:Rat)/\(a:Rat)<=((a.natAbs:Nat):Rat):=by
 have h1: -(a.natAbs:Int)<=a:=by omega
 have h2:a<=(a.natAbs:Int):=by omega
 have k1:=Rat.intCast_le_intCast.2 h1;have k2:=Rat.intCast_le_intCast.2 h2;rw[Rat.intCast_neg]at k1;exact⟨k1,k2⟩
theorem pev_bd{B:Nat}{x:Rat}(h1: -(B:Rat)<=x)(h2:x<=(B:Rat)):∀p:List Int,-((pabs B p:Nat):Rat)<=pev p x/\pev p x<=((pabs B p:Nat):Rat)
 | []=>by simp only[pabs,pev];constructor <;> grind
 | a::p=>by
  obtain⟨i1,i2⟩:=pev_bd h1 h2 p;obtain⟨m1,m2⟩:=mul_bd h1 h2 i1 i2;obtain⟨a1,a2⟩:=int_bd a;simp only[pabs,pev];rw[Rat.natCast_add,Rat.natCast_mul]
  constructor <;> grind
def sl:Nat->Int->List Int->List Int
 | 0,c,l=>0::c::l
 | k+1,c,l=>sl k (-c*((2*(k:Int)+3)*(2*k+2))) (0::c::l)
def TL:List Int:=sl 40 1 []
abbrev QH:Int:=181885788445883162140117471388864931326696688664196214979386075558969447233092
abbrev QK:Int:=2^256
def pdil (c:Int):List Int->List Int
 | []=>[]
 | a::p=>a::psc c (pdil c p)
def pder:List Int->List Int
 | []=>[]
 | _::p=>padd p (0::pder p)
def pab2 (B:Nat):List Int->Nat
 | []=>0
 | _::p=>B*pab2 B p+pabs B (pder p)
def prem (p:List Int)(x d:Rat):Rat:=pev p (x+d)-pev p x-d*pev (pder p) x
theorem prem_cons (a:Int)(p:List Int)(x d:Rat):prem (a::p) x d=(x+d)*prem p x d+d*d*pev (pder p) x:=by
 unfold prem
 simp only[pder,pev];rw[pev_add];simp only[pev];rw[Rat.intCast_zero]
 grind
theorem sq_nn (d:Rat):0<=d*d:=by
 rcases (Rat.le_total:(0:Rat)<=d\/d<=0)with h | h
 ·exact Rat.mul_nonneg h h
 ·have:=Rat.mul_nonneg (a:= -d) (b:= -d) (by grind) (by grind)
  grind
theorem prem_bd{B:Nat}{x d:Rat}(h1: -(B:Rat)<=x)(h2:x<=(B:Rat))(h3: -(B:Rat)<=x+d)(h4:x+d<=(B:Rat)):∀p:List Int,-(d*d*((pab2 B p:Nat):Rat))<=prem p x d/\prem p x d<=d*d*((pab2 B p:Nat):Rat)
 | []=>by
  unfold prem
  simp only[pab2,pev,pder]
  have e:((0:Nat):Rat)=0:=rfl
  rw[e]
  constructor <;> grind
 | a::p=>by
  obtain⟨i1,i2⟩:=prem_bd h1 h2 h3 h4 p;obtain⟨m1,m2⟩:=mul_bd h3 h4 i1 i2;obtain⟨b1,b2⟩:=pev_bd h1 h2 (pder p);have s:=sq_nn d;have k1:=Rat.mul_nonneg s (b:=((pabs B (pder p):Nat):Rat)-pev (pder p) x) (by grind);have k2:=Rat.mul_nonneg s (b:=((pabs B (pder p):Nat):Rat)+pev (pder p) x) (by grind);rw[prem_cons];simp only[pab2];rw[Rat.natCast_add,Rat.natCast_mul]
  generalize ((pabs B (pder p):Nat):Rat)=u at *;generalize pev (pder p) x=v at *;generalize prem p x d=r at *;generalize ((pab2 B p:Nat):Rat)=t at *;generalize (B:Rat)=b at *
  constructor <;> grind
abbrev DD:Int:=5797126020747367985879734231578109105412357244731625958745865049716390179693892056256184534249745940480000000000000000000
def TH:List Int:=ptr QH QK TL
def E3:List Int:=padd (padd (psc (QK^164) (pmul TL TL)) (pmul TH TH)) [-(DD*DD*QK^164)]
def E4:List Int:=padd (psc (DD*QK^82) (pdil 2 TL)) (psc (-2) (pmul TL TH))
def E5:List Int:=padd (padd (pmul TL TL) (pmul (pder TL) (pder TL))) [-(DD*DD)]
theorem tl_len:TL.length=82:=by decide +kernel
theorem e3_small:pabs 2 E3*2^240<=(DD*DD*QK^164).natAbs:=Nat.le_of_ble_eq_true (by decide +kernel)
theorem e5_small:pabs 2 E5*2^200<=(DD*DD).natAbs:=Nat.le_of_ble_eq_true (by decide +kernel)
theorem tl_two:pab2 2 TL<=100*DD.natAbs:=Nat.le_of_ble_eq_true (by decide +kernel)
def sinT (x:Rat):Rat:=pev TL x/ (DD:Int)
def cosT (x:Rat):Rat:=pev (pder TL) x/ (DD:Int)
def qt:Rat:=(QH:Rat) / (QK:Int)
theorem dd_pos:(0:Rat) < ((DD:Int):Rat):=by
 have h:(0:Int) < DD:=by decide
 exact Rat.intCast_lt_intCast.2 h
theorem qk_pos:(0:Rat) < ((QK:Int):Rat):=by
 have h:(0:Int) < QK:=by decide
 exact Rat.intCast_lt_intCast.2 h
theorem small_of{u v:Rat}{n:Nat}{m:Int}{k:Nat}(hm:0 < m)(h:n*2^k<=m.natAbs)(h1: -((n:Nat):Rat)<=u)(h2:u<=((n:Nat):Rat))(e:v*(m:Rat)=u): -1<=v*2^k/\v*2^k<=1:=by
 have hm':(0:Rat) < (m:Rat):=Rat.intCast_lt_intCast.2 hm
 have e2:((m.natAbs:Int))=m:=by omega
 have c:((n:Nat):Rat)*2^k<=(m:Rat):=by
  have h3:=Rat.natCast_le_natCast.2 h;rw[Rat.natCast_mul,Rat.natCast_pow]at h3
  have e3:((m.natAbs:Nat):Rat)=(m:Rat):=by
   rw[<-e2]
   rfl
  rw[e3]at h3;exact h3
 have p2:(0:Rat) < 2^k:=Rat.pow_pos (by decide)
 have k1:=Rat.mul_nonneg (a:=(n:Rat)-u) (b:=2^k) (by grind) (Rat.le_of_lt p2);have k2:=Rat.mul_nonneg (a:=(n:Rat)+u) (b:=2^k) (by grind) (Rat.le_of_lt p2)
 have g1:v*2^k*(m:Rat)<=1*(m:Rat):=by grind
 have g2: -1*(m:Rat)<=v*2^k*(m:Rat):=by grind
 exact⟨Rat.le_of_mul_le_mul_right g2 hm',Rat.le_of_mul_le_mul_right g1 hm'⟩
theorem rpow_add (k:Rat)(n:Nat):∀m:Nat,k^(n+m)=k^n*k^m
 | 0=>by rw[Nat.add_zero,Rat.pow_zero];grind
 | m+1=>by
  rw[show n+(m+1)=(n+m)+1 from rfl,Rat.pow_succ,Rat.pow_succ,rpow_add k n m]
  grind
theorem sin_dd (x:Rat):sinT x*((DD:Int):Rat)=pev TL x:=Rat.div_mul_cancel (Rat.ne_of_gt dd_pos)
theorem cos_dd (x:Rat):cosT x*((DD:Int):Rat)=pev (pder TL) x:=Rat.div_mul_cancel (Rat.ne_of_gt dd_pos)
theorem th_at (x:Rat):pev TH x=sinT (x+qt)*((DD:Int):Rat)*((QK:Int):Rat)^82:=by
 unfold TH
 rw[pev_tr QH QK (Rat.ne_of_gt qk_pos),tl_len,sin_dd]
 rfl
theorem circle{x:Rat}(h1: -2<=x)(h2:x<=2): -1<=(sinT x*sinT x+sinT (x+qt)*sinT (x+qt)-1)*2^240/\(sinT x*sinT x+sinT (x+qt)*sinT (x+qt)-1)*2^240<=1:=by
 obtain⟨b1,b2⟩:=pev_bd (B:=2) (x:=x) h1 h2 E3;refine small_of (m:=DD*DD*QK^164) (by decide +kernel) e3_small b1 b2 ?_
 have e:pev E3 x=((QK^164:Int):Rat)*(pev TL x*pev TL x)+pev TH x*pev TH x+((-(DD*DD*QK^164):Int):Rat):=by
  unfold E3
  rw[pev_add,pev_add,pev_sc,pev_mul,pev_mul];simp only[pev]
  grind
 rw[e,th_at,<-sin_dd,Rat.intCast_neg,Rat.intCast_mul,Rat.intCast_mul,Rat.intCast_pow,show (164:Nat)=82+82 from rfl,rpow_add]
 generalize ((QK:Int):Rat)^82=k;generalize ((DD:Int):Rat)=d;generalize sinT x=s;generalize sinT (x+qt)=c
 grind
theorem circleD{x:Rat}(h1: -2<=x)(h2:x<=2): -1<=(sinT x*sinT x+cosT x*cosT x-1)*2^200/\(sinT x*sinT x+cosT x*cosT x-1)*2^200<=1:=by
 obtain⟨b1,b2⟩:=pev_bd (B:=2) (x:=x) h1 h2 E5;refine small_of (m:=DD*DD) (by decide +kernel) e5_small b1 b2 ?_
 have e:pev E5 x=pev TL x*pev TL x+pev (pder TL) x*pev (pder TL) x+((-(DD*DD):Int):Rat):=by
  unfold E5
  rw[pev_add,pev_add,pev_mul,pev_mul];simp only[pev]
  grind
 rw[e,<-sin_dd,<-cos_dd,Rat.intCast_neg,Rat.intCast_mul];generalize ((DD:Int):Rat)=d;generalize sinT x=s;generalize cosT x=c
 grind
theorem sl_odd (x:Rat):∀(k:Nat) (c:Int) (l:List Int),pev l (-x)= -pev l x->pev (sl k c l) (-x)= -pev (sl k c l) x
 | 0,c,l,h=>by
  simp only[sl,pev];rw[h,Rat.intCast_zero]
  grind
 | k+1,c,l,h=>by
  simp only[sl];refine sl_odd x k _ _ ?_;simp only[pev];rw[h,Rat.intCast_zero]
  grind
theorem sin_neg (x:Rat):sinT (-x)= -sinT x:=by
 have h:=sl_odd x 40 1 [] (by simp only[pev];grind);have a:=sin_dd x;have b:=sin_dd (-x)
 have c:pev TL (-x)= -pev TL x:=h
 have d:=dd_pos
 unfold sinT
 rw[c,Rat.div_def,Rat.div_def]
 grind
def tt (c y:Rat):Nat->Rat
 | 0=>c*y
 | k+1=> -(tt c y k*(y*y)) / (((2*((k:Int)+1))*(2*((k:Int)+1)+1):Int):Rat)
def ss (c y:Rat):Nat->Rat
 | 0=>c*y
 | k+1=>ss c y k+tt c y (k+1)
def low:Nat->Int->Int
 | 0,c=>c
 | k+1,c=>low k (-c*((2*(k:Int)+3)*(2*k+2)))
theorem nk_pos (k:Nat):(0:Int) < (2*((k:Int)+1))*(2*((k:Int)+1)+1):=Int.mul_pos (by omega) (by omega)
theorem sl_ss (y:Rat):∀(k:Nat) (c:Int) (l:List Int),tt (low k c) y k=(c:Rat)*(y*(y*y)^k)/\pev (sl k c l) y=ss (low k c) y k+(y*y)^(k+1)*pev l y
 | 0,c,l=>by
  simp only[tt,ss,low,sl,pev];rw[Rat.intCast_zero,Rat.pow_succ,Rat.pow_zero]
  constructor <;> grind
 | k+1,c,l=>by
  obtain⟨a,b⟩:=sl_ss y k (-c*((2*(k:Int)+3)*(2*k+2))) (0::c::l)
  have hn:((((2*((k:Int)+1))*(2*((k:Int)+1)+1):Int)):Rat)≠0:=Rat.ne_of_gt (Rat.intCast_lt_intCast.2 (nk_pos k))
  have hi:(-c*((2*(k:Int)+3)*(2*k+2)))= -c*((2*((k:Int)+1))*(2*((k:Int)+1)+1)):=by
   rw[show 2*((k:Int)+1)+1=2*(k:Int)+3 by omega,show 2*((k:Int)+1)=2*(k:Int)+2 by omega,Int.mul_comm (2*(k:Int)+2)]
  have t1:tt (low (k+1) c) y (k+1)=(c:Rat)*(y*(y*y)^(k+1)):=by
   simp only[tt,low];rw[a,hi,Rat.intCast_mul,Rat.intCast_neg,Rat.pow_succ,Rat.div_def];generalize ((((2*((k:Int)+1))*(2*((k:Int)+1)+1):Int)):Rat)=n at *;have e:=Rat.mul_inv_cancel n hn;generalize n⁻¹=i at *;generalize (y*y)^k=p
   have: -(-(c:Rat)*n*(y*p)*(y*y))*i=(c:Rat)*(y*(p*(y*y)))*(n*i):=by grind
   rw[this,e]
   grind
  refine⟨t1,?_⟩
  have t2:ss (low (k+1) c) y (k+1)=ss (low (k+1) c) y k+tt (low (k+1) c) y (k+1):=rfl
  rw[t2,t1]
  show pev (sl k (-c*((2*(k:Int)+3)*(2*k+2))) (0::c::l)) y=ss (low k (-c*((2*(k:Int)+3)*(2*k+2)))) y k+_+_
  rw[b];simp only[pev]
  rw[Rat.intCast_zero,show k+1+1=(k+1)+1 from rfl,Rat.pow_succ (y*y) (k+1)]
  generalize (y*y)^(k+1)=p
  grind
theorem tt_lin (c y:Rat):∀k,tt c y k=c*tt 1 y k
 | 0=>by simp only[tt];grind
 | k+1=>by
  simp only[tt];rw[tt_lin c y k,Rat.div_def,Rat.div_def]
  grind
theorem ss_lin (c y:Rat):∀k,ss c y k=c*ss 1 y k
 | 0=>by simp only[ss];grind
 | k+1=>by
  simp only[ss];rw[ss_lin c y k,tt_lin c y (k+1)]
  grind
theorem low_dd:low 40 1=DD:=by decide +kernel
theorem sin_ss (y:Rat):sinT y=ss 1 y 40:=by
 have h:=(sl_ss y 40 1 []).2
 have e:pev TL y=ss ((DD:Int):Rat) y 40:=by
  show pev (sl 40 1 []) y=_
  rw[h,low_dd];simp only[pev]
  grind
 unfold sinT
 rw[e,ss_lin,Rat.mul_comm];exact Rat.mul_div_cancel (Rat.ne_of_gt dd_pos)
theorem ser_step{t x y v u w n x':Rat}(hn:6<=n)(y1: -(8/5)<=y)(y2:y<=8/5)(e1: -(5/2)<=t-x)(e2:t-x<=5/2)(v1:v<=t*y)(v2:t*y < v+1)(u1:u<=v*y)(u2:v*y < u+1)
  (w1:w*n<=u) (w2:u < w*n+n) (hx:x'*n= -(x*(y*y))): -(5/2)<= -w-x'/\ -w-x'<=5/2:=by
 have s0:=sq_nn y;obtain⟨_,s1⟩:=mul_bd y1 y2 y1 y2;obtain⟨m1,m2⟩:=mul_bd (b:=5/2) (a:=8/5*(8/5)) (x:=t-x) (e:=y*y) e1 e2 (by grind) s1;obtain⟨f1,f2⟩:=mul_bd (b:=1) (a:=8/5) (x:=t*y-v) (e:=y) (by grind) (by grind) y1 y2
 have n0:(0:Rat) < n:=by grind
 have g1:(-w-x')*n<=5/2*n:=by grind
 have g2: -(5/2)*n<=(-w-x')*n:=by grind
 exact⟨Rat.le_of_mul_le_mul_right g2 n0,Rat.le_of_mul_le_mul_right g1 n0⟩
def ti (m:Int):Nat->Int
 | 0=>m
 | k+1=> -((ti m k*m/SC*m/SC) / ((2*((k:Int)+1))*(2*((k:Int)+1)+1)))
def si (m:Int):Nat->Int
 | 0=>m
 | k+1=>si m k+ti m (k+1)
abbrev SR:Rat:=((SC:Int):Rat)
theorem sr_pos:(0:Rat) < SR:=by
 have h:(0:Int) < SC:=by decide
 exact Rat.intCast_lt_intCast.2 h
theorem fl_bd (a b:Int)(hb:0 < b):(((a/b:Int)):Rat)*(b:Rat)<=(a:Rat)/\(a:Rat) < (((a/b:Int)):Rat)*(b:Rat)+(b:Rat):=by
 have h1:=Rat.intCast_le_intCast.2 (Int.ediv_mul_le a (Int.ne_of_gt hb));have h2:=Rat.intCast_lt_intCast.2 (Int.lt_ediv_add_one_mul_self a hb);rw[Rat.intCast_mul]at h1 h2;rw[Rat.intCast_add]at h2
 have e:((1:Int):Rat)=1:=rfl
 rw[e]at h2
 constructor <;> grind
theorem fl_div (a b:Int)(hb:0 < b){z:Rat}(hz:z*(b:Rat)=(a:Rat)):(((a/b:Int)):Rat)<=z/\z < (((a/b:Int)):Rat)+1:=by
 have hb':(0:Rat) < (b:Rat):=Rat.intCast_lt_intCast.2 hb
 obtain⟨h1,h2⟩:=fl_bd a b hb
 constructor
 ·exact Rat.le_of_mul_le_mul_right (by rw[hz];exact h1) hb'
 ·have c:¬(((a/b:Int)):Rat)+1<=z:=fun c=>by
   have:=Rat.mul_le_mul_of_nonneg_right c (Rat.le_of_lt hb')
   rw[hz]at this
   grind
  exact Rat.not_le.1 c
theorem ser_err{m:Int}{y:Rat}(hy:y*SR=(m:Rat))(y1: -(8/5)<=y)(y2:y<=8/5):∀k:Nat,(-(5/2)<=((ti m k:Int):Rat)-tt SR y k/\((ti m k:Int):Rat)-tt SR y k<=5/2)/\ -(5/2*(k:Rat))<=((si m k:Int):Rat)-ss SR y k/\((si m k:Int):Rat)-ss SR y k<=5/2*(k:Rat)
 | 0=>by
  simp only[ti,si,tt,ss]
  have e:((0:Nat):Rat)=0:=rfl
  rw[e,<-hy];refine⟨⟨?_,?_⟩,?_,?_⟩ <;> grind
 | k+1=>by
  obtain⟨⟨a1,a2⟩,b1,b2⟩:=ser_err hy y1 y2 k
  have sp:(0:Int) < SC:=by decide
  have np:=nk_pos k
  have n6:(6:Int)<=(2*((k:Int)+1))*(2*((k:Int)+1)+1):=by
   have:=Int.mul_le_mul (show (2:Int)<=2*((k:Int)+1) by omega) (show (3:Int)<=2*((k:Int)+1)+1 by omega) (by decide) (by omega)
   omega
  obtain⟨v1,v2⟩:=fl_div (ti m k*m) SC sp (z:=((ti m k:Int):Rat)*y) (by rw[Rat.intCast_mul,<-hy];grind);obtain⟨u1,u2⟩:=fl_div (ti m k*m/SC*m) SC sp (z:=((ti m k*m/SC:Int):Rat)*y) (by rw[Rat.intCast_mul,<-hy];grind);obtain⟨w1,w2⟩:=fl_bd (ti m k*m/SC*m/SC) ((2*((k:Int)+1))*(2*((k:Int)+1)+1)) np
  have n6':(6:Rat)<=((((2*((k:Int)+1))*(2*((k:Int)+1)+1):Int)):Rat):=Rat.intCast_le_intCast.2 n6
  have hx:tt SR y (k+1)*((((2*((k:Int)+1))*(2*((k:Int)+1)+1):Int)):Rat)= -(tt SR y k*(y*y)):=by
   simp only[tt];exact Rat.div_mul_cancel (Rat.ne_of_gt (Rat.intCast_lt_intCast.2 np))
  have key:=ser_step n6' y1 y2 a1 a2 v1 v2 u1 u2 w1 w2 hx
  have e1:((ti m (k+1):Int):Rat)= -((((ti m k*m/SC*m/SC) / ((2*((k:Int)+1))*(2*((k:Int)+1)+1)):Int)):Rat):=by
   simp only[ti];rw[Rat.intCast_neg]
  have e2:((si m (k+1):Int):Rat)=((si m k:Int):Rat)+((ti m (k+1):Int):Rat):=by
   simp only[si];rw[Rat.intCast_add]
  have e3:ss SR y (k+1)=ss SR y k+tt SR y (k+1):=rfl
  have e4:((k+1:Nat):Rat)=(k:Rat)+1:=by rw[Rat.natCast_add];rfl
  rw[e2,e3,e4,e1];obtain⟨k1,k2⟩:=key;refine⟨⟨k1,k2⟩,?_,?_⟩ <;> grind
theorem ser_sin{m:Int}{y:Rat}(hy:y*SR=(m:Rat))(y1: -(8/5)<=y)(y2:y<=8/5): -100<=((si m 40:Int):Rat)-sinT y*SR/\((si m 40:Int):Rat)-sinT y*SR<=100:=by
 obtain⟨_,b1,b2⟩:=ser_err hy y1 y2 40;rw[ss_lin,<-sin_ss]at b1 b2
 have e:((40:Nat):Rat)=40:=rfl
 rw[e]at b1 b2
 constructor <;> grind
theorem p200:(0:Rat) < 2^200:=Rat.pow_pos (by decide)
theorem cos_bd{x:Rat}(h1: -2<=x)(h2:x<=2):cosT x*cosT x<=1+1/2^200:=by
 obtain⟨_,b⟩:=circleD h1 h2;have s:=sq_nn (sinT x);have p:=p200
 have e:(1/2^200:Rat)*2^200=1:=Rat.div_mul_cancel (Rat.ne_of_gt p)
 refine Rat.le_of_mul_le_mul_right (c:=2^200) ?_ p
 have:=Rat.mul_nonneg s (Rat.le_of_lt p)
 grind
theorem abs_of_sq{c e:Rat}(he:0<=e)(h:c*c<=1+e): -(1+e)<=c/\c<=1+e:=by
 have s:=sq_nn e
 constructor
 ·by_cases k: -(1+e)<=c
  ·exact k
  ·have k':=Rat.not_le.1 k
   have this:=Rat.mul_nonneg (a:= -(1+e)-c) (b:= -(1+e)-c) (by grind) (by grind);have g:=Rat.mul_pos (a:= -(1+e)-c) (b:=1+e) (by grind) (by grind)
   grind
 ·by_cases k:c<=1+e
  ·exact k
  ·have k':=Rat.not_le.1 k
   have this:=Rat.mul_nonneg (a:=c-(1+e)) (b:=c-(1+e)) (by grind) (by grind);have g:=Rat.mul_pos (a:=c-(1+e)) (b:=1+e) (by grind) (by grind)
   grind
theorem sin_near{x d:Rat}(h1: -2<=x)(h2:x<=2)(h3: -2<=x+d)(h4:x+d<=2)(hd:0<=d):
  -(d*(1+1/2^200)+100*(d*d))<=sinT (x+d)-sinT x/\sinT (x+d)-sinT x<=d*(1+1/2^200)+100*(d*d):=by
 have p:=p200
 have ep:(0:Rat)<=1/2^200:=by
  rw[Rat.div_def];exact Rat.mul_nonneg (by decide) (Rat.le_of_lt (Rat.inv_pos.2 p))
 obtain⟨c1,c2⟩:=abs_of_sq ep (cos_bd h1 h2);obtain⟨r1,r2⟩:=prem_bd (B:=2) (x:=x) (d:=d) h1 h2 h3 h4 TL
 have t2:((pab2 2 TL:Nat):Rat)<=100*((DD:Int):Rat):=by
  have h:=Rat.natCast_le_natCast.2 tl_two;rw[Rat.natCast_mul]at h;exact h
 have s:=sq_nn d;have g:=Rat.mul_nonneg s (b:=100*((DD:Int):Rat)-((pab2 2 TL:Nat):Rat)) (by grind);have k1:=Rat.mul_nonneg hd (b:=1+1/2^200-cosT x) (by grind);have k2:=Rat.mul_nonneg hd (b:=1+1/2^200+cosT x) (by grind)
 have e:(sinT (x+d)-sinT x-d*cosT x)*((DD:Int):Rat)=prem TL x d:=by
  unfold prem
  rw[<-sin_dd,<-sin_dd,<-cos_dd]
  grind
 have dp:=dd_pos;generalize (1/2^200:Rat)=ε at *
 have q1:sinT (x+d)-sinT x-d*cosT x<=100*(d*d):=Rat.le_of_mul_le_mul_right (c:=((DD:Int):Rat)) (by rw[e];grind) dp
 have q2: -(100*(d*d))<=sinT (x+d)-sinT x-d*cosT x:=Rat.le_of_mul_le_mul_right (c:=((DD:Int):Rat)) (by rw[e];grind) dp
 constructor <;> grind
theorem core{r:Int}{z W:Rat}(r1: -(8/5)*SR<=(r:Rat))(r2:(r:Rat)<=8/5*SR)(h1:(r:Rat)<=z)(h2:z-r<=W)(hW:W<=2^60):
  -(W+101)<=sinT (z/SR)*SR-((si r 40:Int):Rat)/\sinT (z/SR)*SR-((si r 40:Int):Rat)<=W+101:=by
 have sp:=sr_pos;have sn:=Rat.ne_of_gt sp
 have ey:(r:Rat) /SR*SR=r:=Rat.div_mul_cancel sn
 have ez:z/SR*SR=z:=Rat.div_mul_cancel sn
 obtain⟨y,hy⟩:∃y,(r:Rat) /SR=y:=⟨_,rfl⟩;obtain⟨f,hf⟩:∃f,z/SR=f:=⟨_,rfl⟩;rw[hy]at ey;rw[hf]at ez|-
 have y1: -(8/5)<=y:=Rat.le_of_mul_le_mul_right (c:=SR) (by rw[ey];exact r1) sp
 have y2:y<=8/5:=Rat.le_of_mul_le_mul_right (c:=SR) (by rw[ey];exact r2) sp
 obtain⟨d,hd⟩:∃d,f-y=d:=⟨_,rfl⟩
 have eg:d*SR=z-r:=by rw[<-hd];grind
 have d0:0<=d:=Rat.le_of_mul_le_mul_right (c:=SR) (by rw[eg];grind) sp
 have big:(2^60:Rat)*4000<=SR:=by decide +kernel
 have big2:(100*2^60*2^60:Rat)*4<=SR:=by decide +kernel
 have d1:d<=1/4:=Rat.le_of_mul_le_mul_right (c:=SR) (by rw[eg];grind) sp
 have e1:y+d=f:=by grind
 obtain⟨n1,n2⟩:=sin_near (x:=y) (d:=d) (by grind) (by grind) (by grind) (by grind) d0;obtain⟨s1,s2⟩:=ser_sin ey y1 y2;rw[e1]at n1 n2;obtain⟨ε,hε⟩:∃ε,(1/2^200:Rat)=ε:=⟨_,rfl⟩
 have ε1:ε*2^60<=1/4:=by rw[<-hε];decide +kernel
 have ε0:0<=ε:=by rw[<-hε];decide +kernel
 rw[hε]at n1 n2
 have g0:0<=z-r:=by grind
 have g1:z-r<=2^60:=by grind
 have a1:(z-r)*ε<=1/4:=by
  have:=Rat.mul_le_mul_of_nonneg_right g1 ε0
  grind
 have a2:100*2^60*d<=1/4:=Rat.le_of_mul_le_mul_right (c:=SR) (by
  have e:100*2^60*d*SR=100*2^60*(z-r):=by rw[<-eg];grind
  rw[e]
  grind) sp
 have a3:100*(z-r)*d<=1/4:=by
  have:=Rat.mul_le_mul_of_nonneg_right g1 d0
  grind
 have b1:(sinT f-sinT y)*SR<=(d*(1+ε)+100*(d*d))*SR:=Rat.mul_le_mul_of_nonneg_right n2 (Rat.le_of_lt sp)
 have b2: -(d*(1+ε)+100*(d*d))*SR<=(sinT f-sinT y)*SR:=Rat.mul_le_mul_of_nonneg_right n1 (Rat.le_of_lt sp)
 have c:(d*(1+ε)+100*(d*d))*SR=(z-r)+(z-r)*ε+100*(z-r)*d:=by rw[<-eg];grind
 rw[Rat.neg_mul,c]at b2;rw[c]at b1
 constructor <;> grind
theorem half_turn:(PLo:Rat)<=2*qt*SR/\2*qt*SR<=(PHi:Rat):=by decide +kernel
def qI (x:Int):Int:=(2*x+PLo) / (2*PLo)
def rI (x:Int):Int:=if qI x < 0 then x-qI x*PLo else x-qI x*PHi
def tI (x y:Int):Int:=if qI x < 0 then y-qI x*PHi else y-qI x*PLo
theorem qI_bd (x:Int): -PLo<=2*(x-qI x*PLo)/\2*(x-qI x*PLo) < PLo:=by
 have h1:=Int.ediv_mul_le (2*x+PLo) (show (2*PLo:Int)≠0 by decide)
 have h2:=Int.lt_ediv_add_one_mul_self (2*x+PLo) (show (0:Int) < 2*PLo by decide)
 unfold qI
 generalize (2*x+PLo) / (2*PLo)=q at *
 unfold PLo at *
 omega
theorem turns{x y:Int}{z:Rat}(h1:(x:Rat)<=z)(h2:z<=(y:Rat)):((rI x:Int):Rat)<=z-(qI x:Rat)*(2*qt*SR)/\z-(qI x:Rat)*(2*qt*SR)<=((tI x y:Int):Rat):=by
 obtain⟨p1,p2⟩:=half_turn
 unfold rI tI
 generalize qI x=q;generalize 2*qt*SR=p at *
 by_cases c:q < 0
 ·rw[if_pos c,if_pos c,Rat.intCast_sub,Rat.intCast_sub,Rat.intCast_mul,Rat.intCast_mul]
  have hq:(q:Rat)<=0:=Rat.intCast_le_intCast.2 (Int.le_of_lt c)
  have k1:=Rat.mul_nonneg (a:= -(q:Rat)) (b:=p-(PLo:Rat)) (by grind) (by grind);have k2:=Rat.mul_nonneg (a:= -(q:Rat)) (b:=(PHi:Rat)-p) (by grind) (by grind)
  constructor <;> grind
 ·rw[if_neg c,if_neg c,Rat.intCast_sub,Rat.intCast_sub,Rat.intCast_mul,Rat.intCast_mul]
  have hq:(0:Rat)<=(q:Rat):=Rat.intCast_le_intCast.2 (show 0<=q by omega)
  have k1:=Rat.mul_nonneg (a:=(q:Rat)) (b:=p-(PLo:Rat)) (by grind) (by grind);have k2:=Rat.mul_nonneg (a:=(q:Rat)) (b:=(PHi:Rat)-p) (by grind) (by grind)
  constructor <;> grind
theorem qI_abs{x:Int}(h1: -2147483648*SC<=x)(h2:x<=2147483648*SC): -2147483648<=qI x/\qI x<=2147483648:=by
 obtain⟨a,b⟩:=qI_bd x;generalize qI x=q at *
 unfold SC PLo at *
 omega
theorem rI_bd{x:Int}(h1: -2147483648*SC<=x)(h2:x<=2147483648*SC): -(8*SC)<=5*rI x/\5*rI x<=8*SC:=by
 obtain⟨a,b⟩:=qI_bd x;obtain⟨c,d⟩:=qI_abs h1 h2
 unfold rI
 generalize qI x=q at *
 by_cases e:q < 0
 ·rw[if_pos e]
  unfold SC PLo at *
  omega
 ·rw[if_neg e]
  unfold SC PLo PHi at *
  omega
theorem tI_bd{x y:Int}(h1: -2147483648*SC<=x)(h2:x<=2147483648*SC)(h3:x<=y)(h4:y-x<=2000000):0<=tI x y-rI x/\tI x y-rI x<=4398046511104:=by
 obtain⟨c,d⟩:=qI_abs h1 h2
 unfold rI tI
 generalize qI x=q at *
 by_cases e:q < 0
 ·rw[if_pos e,if_pos e]
  unfold SC PLo PHi at *
  omega
 ·rw[if_neg e,if_neg e]
  unfold SC PLo PHi at *
  omega
theorem left_sin{x y:Int}{z:Rat}(h1: -2147483648*SC<=x)(h2:x<=2147483648*SC)(h3:x<=y)(h4:y-x<=2000000)(z1:(x:Rat)<=z)(z2:z<=(y:Rat)):
  ((si (rI x) 40-(tI x y-rI x+101):Int):Rat)<=sinT ((z-(qI x:Rat)*(2*qt*SR)) /SR)*SR/\sinT ((z-(qI x:Rat)*(2*qt*SR)) /SR)*SR<=((si (rI x) 40+(tI x y-rI x+101):Int):Rat):=by
 obtain⟨a,b⟩:=rI_bd h1 h2;obtain⟨c,d⟩:=tI_bd h1 h2 h3 h4;obtain⟨e,f⟩:=turns z1 z2
 have a':=Rat.intCast_le_intCast.2 a
 have b':=Rat.intCast_le_intCast.2 b
 have d':=Rat.intCast_le_intCast.2 d
 rw[Rat.intCast_neg,Rat.intCast_mul,Rat.intCast_mul]at a';rw[Rat.intCast_mul,Rat.intCast_mul]at b';rw[Rat.intCast_sub]at d'
 have l5:((5:Int):Rat)=5:=rfl
 have l8:((8:Int):Rat)=8:=rfl
 have lb:((4398046511104:Int):Rat)<=2^60:=by decide +kernel
 have l1:((101:Int):Rat)=101:=rfl
 rw[l5,l8]at a' b';obtain⟨k1,k2⟩:=core (r:=rI x) (z:=z-(qI x:Rat)*(2*qt*SR)) (W:=((tI x y:Int):Rat)-((rI x:Int):Rat)) (by grind) (by grind) e (by grind) (by grind);rw[Rat.intCast_sub,Rat.intCast_add,Rat.intCast_add,Rat.intCast_sub,l1]
 constructor <;> grind
def wide (x y:Int):Int × Int:=if qI x%2=0 then (si (rI x) 40-(tI x y-rI x+200),si (rI x) 40+(tI x y-rI x+200))else (-(si (rI x) 40+(tI x y-rI x+200)),-(si (rI x) 40-(tI x y-rI x+200)))
def sinU (x:Int)(z:Rat):Rat:=if qI x%2=0 then sinT ((z-(qI x:Rat)*(2*qt*SR)) /SR)else -sinT ((z-(qI x:Rat)*(2*qt*SR)) /SR)
theorem wide_sin{x y:Int}{z:Rat}(h1: -2147483648*SC<=x)(h2:x<=2147483648*SC)(h3:x<=y)(h4:y-x<=2000000)(z1:(x:Rat)<=z)(z2:z<=(y:Rat)):
  (((wide x y).1+99:Int):Rat)<=sinU x z*SR/\sinU x z*SR<=(((wide x y).2-99:Int):Rat):=by
 obtain⟨a,b⟩:=left_sin h1 h2 h3 h4 z1 z2
 unfold wide sinU
 by_cases c:qI x%2=0
 ·rw[if_pos c,if_pos c];simp only[]
  rw[show si (rI x) 40-(tI x y-rI x+200)+99=si (rI x) 40-(tI x y-rI x+101) by omega,show si (rI x) 40+(tI x y-rI x+200)-99=si (rI x) 40+(tI x y-rI x+101) by omega]
  exact⟨a,b⟩
 ·rw[if_neg c,if_neg c];simp only[]
  rw[show -(si (rI x) 40+(tI x y-rI x+200))+99= -(si (rI x) 40+(tI x y-rI x+101)) by omega,show -(si (rI x) 40-(tI x y-rI x+200))-99= -(si (rI x) 40-(tI x y-rI x+101)) by omega,Rat.intCast_neg,Rat.intCast_neg]
  constructor <;> grind
def TG:List Int:=ptr (2*QH) QK TL
def E6:List Int:=padd TG (psc (QK^82) TL)
theorem e6_small:pabs 2 E6*2^190<=(DD*QK^82).natAbs:=Nat.le_of_ble_eq_true (by decide +kernel)
theorem half_on{x:Rat}(h1: -2<=x)(h2:x<=2): -1<=(sinT (x+2*qt)+sinT x)*2^190/\(sinT (x+2*qt)+sinT x)*2^190<=1:=by
 obtain⟨b1,b2⟩:=pev_bd (B:=2) (x:=x) h1 h2 E6;refine small_of (m:=DD*QK^82) (by decide +kernel) e6_small b1 b2 ?_
 have e:pev TG x=sinT (x+2*qt)*((DD:Int):Rat)*((QK:Int):Rat)^82:=by
  unfold TG
  rw[pev_tr (2*QH) QK (Rat.ne_of_gt qk_pos),tl_len,sin_dd]
  have q:((2*QH:Int):Rat) / ((QK:Int):Rat)=2*qt:=by
   unfold qt
   rw[Rat.intCast_mul,Rat.div_def,Rat.div_def,Rat.mul_assoc]
   rfl
  rw[q]
 unfold E6
 rw[pev_add,pev_sc,e,<-sin_dd,Rat.intCast_mul,Rat.intCast_pow];generalize ((QK:Int):Rat)^82=k;generalize ((DD:Int):Rat)=d;generalize sinT x=s;generalize sinT (x+2*qt)=c
 grind
def ang (x:Int)(z:Rat):Rat:=(z-(qI x:Rat)*(2*qt*SR)) /SR
theorem ang_at (x:Int)(z:Rat):ang x z*SR=z-(qI x:Rat)*(2*qt*SR):=Rat.div_mul_cancel (Rat.ne_of_gt sr_pos)
theorem qt_bd:(157/100:Rat)<=qt/\qt<=158/100:=by decide +kernel
theorem ang_bd{x y:Int}{z:Rat}(h1: -2147483648*SC<=x)(h2:x<=2147483648*SC)(h3:x<=y)(h4:y-x<=2000000)(z1:(x:Rat)<=z)(z2:z<=(y:Rat)): -(17/10)<=ang x z/\ang x z<=17/10:=by
 obtain⟨a,b⟩:=rI_bd h1 h2;obtain⟨c,d⟩:=tI_bd h1 h2 h3 h4;obtain⟨e,f⟩:=turns z1 z2;rw[<-ang_at]at e f
 have u1: -(17*SC)<=10*rI x:=by unfold SC at *;omega
 have u2:10*tI x y<=17*SC:=by unfold SC at *;omega
 have u1':=Rat.intCast_le_intCast.2 u1
 have u2':=Rat.intCast_le_intCast.2 u2
 rw[Rat.intCast_neg,Rat.intCast_mul,Rat.intCast_mul]at u1';rw[Rat.intCast_mul,Rat.intCast_mul]at u2'
 have l1:((17:Int):Rat)=17:=rfl
 have l2:((10:Int):Rat)=10:=rfl
 rw[l1,l2]at u1' u2';have sp:=sr_pos;exact⟨Rat.le_of_mul_le_mul_right (c:=SR) (by grind) sp,Rat.le_of_mul_le_mul_right (c:=SR) (by grind) sp⟩
theorem sinU_ang (x:Int)(z:Rat):sinU x z=if qI x%2=0 then sinT (ang x z)else -sinT (ang x z):=rfl
theorem kbd{k:Int}(h1: -(51/10)<=(k:Rat)*(2*qt))(h2:(k:Rat)*(2*qt)<=51/10):k=0\/k=1\/k= -1:=by
 obtain⟨q1,q2⟩:=qt_bd
 have k1:k < 2:=by
  by_cases c:k < 2
  ·exact c
  ·exfalso
   have d:(2:Rat)<=(k:Rat):=Rat.intCast_le_intCast.2 (show 2<=k by omega)
   have:=Rat.mul_le_mul_of_nonneg_right d (show (0:Rat)<=2*qt by grind)
   grind
 have k2: -2 < k:=by
  by_cases c: -2 < k
  ·exact c
  ·exfalso
   have d:(k:Rat)<= -2:=Rat.intCast_le_intCast.2 (show k<= -2 by omega)
   have:=Rat.mul_le_mul_of_nonneg_right d (show (0:Rat)<=2*qt by grind)
   grind
 omega
theorem c1:((1:Int):Rat)=1:=rfl
theorem c0:((0:Int):Rat)=0:=rfl
theorem cm:((-1:Int):Rat)= -1:=rfl
theorem opp{t:Rat}{k:Int}(h1: -2<=t)(h2:t<=2)(hk:k=0\/k=1\/k= -1):
  -1<=(sinT (-t+(k:Rat)*(2*qt))+(if k%2=0 then sinT t else -sinT t))*2^190/\(sinT (-t+(k:Rat)*(2*qt))+(if k%2=0 then sinT t else -sinT t))*2^190<=1:=by
 rcases hk with rfl | rfl | rfl
 ·rw[if_pos (by decide),c0,show -t+0*(2*qt)= -t by grind,sin_neg]
  constructor <;> grind
 ·rw[if_neg (by decide),c1];have h:=half_on (x:= -t) (by grind) (by grind)
  rw[sin_neg,show -t+2*qt= -t+1*(2*qt) by grind]at h
  exact h
 ·rw[if_neg (by decide),cm];have h:=half_on (x:=t) h1 h2
  rw[show -t+ -1*(2*qt)= -(t+2*qt) by grind,sin_neg]
  constructor <;> grind
theorem negU{x x':Int}{z:Rat}(a: -(17/10)<=ang x z/\ang x z<=17/10)(b: -(17/10)<=ang x' (-z)/\ang x' (-z)<=17/10):
  -1<=(sinU x' (-z)+sinU x z)*2^190/\(sinU x' (-z)+sinU x z)*2^190<=1:=by
 obtain⟨k,hk⟩:∃k,k= -(qI x+qI x'):=⟨_,rfl⟩
 have e:ang x' (-z)= -ang x z+(k:Rat)*(2*qt):=by
  have p:=ang_at x z;have q:=ang_at x' (-z);have sp:=sr_pos;rw[hk,Rat.intCast_neg,Rat.intCast_add];refine Rat.le_antisymm (Rat.le_of_mul_le_mul_right (c:=SR) ?_ sp) (Rat.le_of_mul_le_mul_right (c:=SR) ?_ sp) <;> grind
 have h:=opp (t:=ang x z) (by grind) (by grind) (kbd (k:=k) (by grind) (by grind));rw[<-e]at h;rw[sinU_ang,sinU_ang]
 by_cases c:qI x'%2=0
 ·rw[if_pos c]
  by_cases d:qI x%2=0
  ·rw[if_pos (by omega)]at h;rw[if_pos d];exact h
  ·rw[if_neg (by omega)]at h;rw[if_neg d];exact h
 ·rw[if_neg c]
  by_cases d:qI x%2=0
  ·rw[if_neg (by omega)]at h;rw[if_pos d]
   constructor <;> grind
  ·rw[if_pos (by omega)]at h;rw[if_neg d]
   constructor <;> grind
def pev2:List (List Int)->Rat->Rat->Rat
 | [],_,_=>0
 | p::P,m,h=>pev p m+h*pev2 P m h
def padd2:List (List Int)->List (List Int)->List (List Int)
 | [],Q=>Q
 | p::P,[]=>p::P
 | p::P,q::Q=>padd p q::padd2 P Q
def psc2 (c:Int):List (List Int)->List (List Int)
 | []=>[]
 | p::P=>psc c p::psc2 c P
def mulM:List (List Int)->List (List Int)
 | []=>[]
 | p::P=>(0::p)::mulM P
def shm:List Int->List (List Int)
 | []=>[]
 | a::q=>padd2 [[a]] (padd2 (mulM (shm q)) ([]::shm q))
def flipH:List (List Int)->List (List Int)
 | []=>[]
 | p::P=>p::psc2 (-1) (flipH P)
def outer:List Int->List Int->List (List Int)
 | [],_=>[]
 | a::p,q=>psc a q::outer p q
def pabs2 (B:Nat):List (List Int)->Nat
 | []=>0
 | p::P=>pabs B p+B*pabs2 B P
theorem pev2_add:∀(P Q:List (List Int)) (m h:Rat),pev2 (padd2 P Q) m h=pev2 P m h+pev2 Q m h
 | [],Q,m,h=>by simp only[padd2,pev2];grind
 | p::P,[],m,h=>by simp only[padd2,pev2];grind
 | p::P,q::Q,m,h=>by
  simp only[padd2,pev2];rw[pev2_add P Q m h,pev_add]
  grind
theorem pev2_sc (c:Int):∀(P:List (List Int)) (m h:Rat),pev2 (psc2 c P) m h=(c:Rat)*pev2 P m h
 | [],m,h=>by simp only[psc2,pev2];grind
 | p::P,m,h=>by
  simp only[psc2,pev2];rw[pev2_sc c P m h,pev_sc]
  grind
theorem pev2_m:∀(P:List (List Int)) (m h:Rat),pev2 (mulM P) m h=m*pev2 P m h
 | [],m,h=>by simp only[mulM,pev2];grind
 | p::P,m,h=>by
  simp only[mulM,pev2,pev];rw[pev2_m P m h,c0]
  grind
theorem pev2_sh:∀(p:List Int) (m h:Rat),pev2 (shm p) m h=pev p (m+h)
 | [],m,h=>by simp only[shm,pev2,pev]
 | a::q,m,h=>by
  simp only[shm];rw[pev2_add,pev2_add,pev2_m];simp only[pev2,pev];rw[pev2_sh q m h]
  grind
theorem pev2_flip:∀(P:List (List Int)) (m h:Rat),pev2 (flipH P) m h=pev2 P m (-h)
 | [],m,h=>by simp only[flipH,pev2]
 | p::P,m,h=>by
  simp only[flipH,pev2];rw[pev2_sc,pev2_flip P m h,cm]
  grind
theorem pev2_outer:∀(p q:List Int) (m h:Rat),pev2 (outer p q) m h=pev p h*pev q m
 | [],q,m,h=>by simp only[outer,pev2,pev];grind
 | a::p,q,m,h=>by
  simp only[outer,pev2,pev];rw[pev2_outer p q m h,pev_sc]
  grind
theorem pev2_bd{B:Nat}{m h:Rat}(m1: -(B:Rat)<=m)(m2:m<=(B:Rat))(h1: -(B:Rat)<=h)(h2:h<=(B:Rat)):∀P:List (List Int),-((pabs2 B P:Nat):Rat)<=pev2 P m h/\pev2 P m h<=((pabs2 B P:Nat):Rat)
 | []=>by simp only[pabs2,pev2];constructor <;> grind
 | p::P=>by
  obtain⟨i1,i2⟩:=pev2_bd m1 m2 h1 h2 P;obtain⟨j1,j2⟩:=mul_bd h1 h2 i1 i2;obtain⟨a1,a2⟩:=pev_bd m1 m2 p;simp only[pabs2,pev2];rw[Rat.natCast_add,Rat.natCast_mul]
  constructor <;> grind
def E7:List (List Int):=padd2 (psc2 DD (padd2 (shm TL) (psc2 (-1) (flipH (shm TL))))) (psc2 (-2) (outer TL (pder TL)))
theorem e7_small:pabs2 2 E7*2^200<=(DD*DD).natAbs:=Nat.le_of_ble_eq_true (by decide +kernel)
theorem sin_diff{m h:Rat}(m1: -2<=m)(m2:m<=2)(h1: -2<=h)(h2:h<=2): -1<=(sinT (m+h)-sinT (m-h)-2*(sinT h*cosT m))*2^200/\(sinT (m+h)-sinT (m-h)-2*(sinT h*cosT m))*2^200<=1:=by
 obtain⟨b1,b2⟩:=pev2_bd (B:=2) (m:=m) (h:=h) m1 m2 h1 h2 E7;refine small_of (m:=DD*DD) (by decide +kernel) e7_small b1 b2 ?_
 have e2:((-2:Int):Rat)= -2:=rfl
 unfold E7
 rw[pev2_add,pev2_sc,pev2_sc,pev2_add,pev2_sc,pev2_flip,pev2_sh,pev2_sh,pev2_outer,<-sin_dd,<-sin_dd,<-sin_dd,<-cos_dd,Rat.intCast_mul,cm,e2,show m+ -h=m-h by grind]
 generalize ((DD:Int):Rat)=d;generalize sinT h=s;generalize cosT m=c;generalize sinT (m+h)=u;generalize sinT (m-h)=v
 grind
theorem tt_step{y:Rat}(y0:0<=y)(y2:y<=2)(k:Nat):∃f:Rat,0<=f/\f<=1/\tt 1 y (k+1)= -(f*tt 1 y k):=by
 have np:(0:Rat) < ((((2*((k:Int)+1))*(2*((k:Int)+1)+1):Int)):Rat):=Rat.intCast_lt_intCast.2 (nk_pos k)
 have n6:(6:Int)<=(2*((k:Int)+1))*(2*((k:Int)+1)+1):=by
  have:=Int.mul_le_mul (show (2:Int)<=2*((k:Int)+1) by omega) (show (3:Int)<=2*((k:Int)+1)+1 by omega) (by decide) (by omega)
  omega
 have n6':(6:Rat)<=((((2*((k:Int)+1))*(2*((k:Int)+1)+1):Int)):Rat):=Rat.intCast_le_intCast.2 n6
 obtain⟨_,s⟩:=mul_bd (b:=2) (a:=2) (x:=y) (e:=y) (by grind) y2 (by grind) y2;have s0:=sq_nn y;simp only[tt];generalize ((((2*((k:Int)+1))*(2*((k:Int)+1)+1):Int)):Rat)=n at *
 have e:y*y/n*n=y*y:=Rat.div_mul_cancel (Rat.ne_of_gt np)
 refine⟨y*y/n,?_,?_,?_⟩
 ·exact Rat.le_of_mul_le_mul_right (c:=n) (by rw[e];grind) np
 ·exact Rat.le_of_mul_le_mul_right (c:=n) (by rw[e];grind) np
 ·rw[Rat.div_def,Rat.div_def]
  grind
theorem ss_nn{y:Rat}(y0:0<=y)(y2:y<=2):∀j:Nat,0<=tt 1 y (2*j)/\tt 1 y (2*j)<=ss 1 y (2*j)
 | 0=>by
  simp only[tt,ss]
  constructor <;> grind
 | j+1=>by
  obtain⟨a,b⟩:=ss_nn y0 y2 j;obtain⟨f,f0,f1,ef⟩:=tt_step y0 y2 (2*j);obtain⟨g,g0,g1,eg⟩:=tt_step y0 y2 (2*j+1);have k1:=Rat.mul_nonneg f0 a;have k2:=Rat.mul_nonneg (a:=1-f) (b:=tt 1 y (2*j)) (by grind) a;have k3:=Rat.mul_nonneg g0 k1
  have e1:tt 1 y (2*(j+1))=g*(f*tt 1 y (2*j)):=by
   show tt 1 y (2*j+1+1)=_
   rw[eg,ef]
   grind
  have e2:ss 1 y (2*(j+1))=ss 1 y (2*j)+tt 1 y (2*j+1)+tt 1 y (2*(j+1)):=rfl
  rw[e2,e1,ef]
  constructor <;> grind
theorem sin_nn{y:Rat}(y0:0<=y)(y2:y<=2):0<=sinT y:=by
 rw[sin_ss];obtain⟨a,b⟩:=ss_nn y0 y2 20;exact Rat.le_trans a b
def E8:List Int:=padd TH (psc (-(QK^82)) (pder TL))
theorem e8_small:pabs 2 E8*2^200<=(DD*QK^82).natAbs:=Nat.le_of_ble_eq_true (by decide +kernel)
theorem cos_sin{x:Rat}(h1: -2<=x)(h2:x<=2): -1<=(sinT (x+qt)-cosT x)*2^200/\(sinT (x+qt)-cosT x)*2^200<=1:=by
 obtain⟨b1,b2⟩:=pev_bd (B:=2) (x:=x) h1 h2 E8;refine small_of (m:=DD*QK^82) (by decide +kernel) e8_small b1 b2 ?_
 unfold E8
 rw[pev_add,pev_sc,th_at,<-cos_dd,Rat.intCast_neg,Rat.intCast_mul,Rat.intCast_pow];generalize ((QK:Int):Rat)^82=k;generalize ((DD:Int):Rat)=d;generalize cosT x=s;generalize sinT (x+qt)=c
 grind
theorem pw (n:Nat):(0:Rat) < 2^n:=Rat.pow_pos (by decide)
theorem tiny_lo{v:Rat}{n:Nat}(h: -1<=v*2^n): -(1/2^n)<=v:=by
 have e:(1/2^n:Rat)*2^n=1:=Rat.div_mul_cancel (Rat.ne_of_gt (pw n))
 exact Rat.le_of_mul_le_mul_right (c:=2^n) (by grind) (pw n)
theorem tiny_hi{v:Rat}{n:Nat}(h:v*2^n<=1):v<=1/2^n:=by
 have e:(1/2^n:Rat)*2^n=1:=Rat.div_mul_cancel (Rat.ne_of_gt (pw n))
 exact Rat.le_of_mul_le_mul_right (c:=2^n) (by grind) (pw n)
theorem sin_bd{x:Rat}(h1: -2<=x)(h2:x<=2): -(1+1/2^240)<=sinT x/\sinT x<=1+1/2^240:=by
 obtain⟨_,b⟩:=circle h1 h2;have c:=tiny_hi b;have s:=sq_nn (sinT (x+qt));refine abs_of_sq (by decide +kernel) (by grind)
theorem sin_nn2{w:Rat}(h1:0<=w)(h2:w<=2*qt): -(1/2^190)<=sinT w:=by
 obtain⟨q1,q2⟩:=qt_bd
 by_cases c:w<=2
 ·have:=sin_nn h1 c
  have p:(0:Rat)<=1/2^190:=by decide +kernel
  grind
 ·have c':=Rat.not_le.1 c
  obtain⟨a,b⟩:=half_on (x:=w-2*qt) (by grind) (by grind);have n:=sin_nn (y:= -(w-2*qt)) (by grind) (by grind);rw[sin_neg]at n
  rw[show w-2*qt+2*qt=w by grind]at a
  have:=tiny_lo a
  grind
theorem cos_nn{m:Rat}(h1: -qt<=m)(h2:m<=qt): -(1/2^189)<=cosT m:=by
 obtain⟨q1,q2⟩:=qt_bd;have a:=sin_nn2 (w:=m+qt) (by grind) (by grind);obtain⟨_,b⟩:=cos_sin (x:=m) (by grind) (by grind);have c:=tiny_hi b
 have e:(1/2^190:Rat)+1/2^200<=1/2^189:=by decide +kernel
 grind
theorem sin_mono{a b:Rat}(h1: -qt<=a)(h2:a<=b)(h3:b<=qt): -(1/2^186)<=sinT b-sinT a:=by
 obtain⟨q1,q2⟩:=qt_bd;obtain⟨m,hm⟩:∃m,m=(a+b) /2:=⟨_,rfl⟩;obtain⟨h,hh⟩:∃h,h=(b-a) /2:=⟨_,rfl⟩
 have e1:m*2=a+b:=by rw[hm];exact Rat.div_mul_cancel (by decide)
 have e2:h*2=b-a:=by rw[hh];exact Rat.div_mul_cancel (by decide)
 obtain⟨d,_⟩:=sin_diff (m:=m) (h:=h) (by grind) (by grind) (by grind) (by grind)
 have d':=tiny_lo d
 rw[show m+h=b by grind,show m-h=a by grind]at d'
 have c:=cos_nn (m:=m) (by grind) (by grind);have n:=sin_nn (y:=h) (by grind) (by grind);obtain⟨_,n2⟩:=sin_bd (x:=h) (by grind) (by grind);have k:=Rat.mul_nonneg n (b:=cosT m+1/2^189) (by grind)
 have p1:(0:Rat)<=1/2^189:=by decide +kernel
 have k2:=Rat.mul_le_mul_of_nonneg_right n2 p1
 have e:2*((1+1/2^240)*(1/2^189):Rat)+1/2^200<=1/2^186:=by decide +kernel
 generalize (1/2^189:Rat)=u at *;generalize (1/2^240:Rat)=v at *;generalize (1/2^200:Rat)=t at *;generalize (1/2^186:Rat)=r at *
 grind
def sgq (q:Int)(v:Rat):Rat:=if q%2=0 then v else -v
theorem rep{x q:Int}{z f:Rat}(a: -(17/10)<=ang x z/\ang x z<=17/10)(hf:f*SR=z-(q:Rat)*(2*qt*SR))(f1: -(17/10)<=f)(f2:f<=17/10):
  -1<=(sinU x z-sgq q (sinT f))*2^190/\(sinU x z-sgq q (sinT f))*2^190<=1:=by
 obtain⟨k,hk⟩:∃k,k=qI x-q:=⟨_,rfl⟩
 have e:f=ang x z+(k:Rat)*(2*qt):=by
  have p:=ang_at x z;have sp:=sr_pos;rw[hk,Rat.intCast_sub];refine Rat.le_antisymm (Rat.le_of_mul_le_mul_right (c:=SR) ?_ sp) (Rat.le_of_mul_le_mul_right (c:=SR) ?_ sp) <;> grind
 have hk3:=kbd (k:=k) (by grind) (by grind);rw[sinU_ang]
 unfold sgq
 rcases hk3 with rfl | rfl | rfl
 ·rw[c0]at e
  rw[show f=ang x z by grind]
  by_cases c:q%2=0
  ·rw[if_pos c,if_pos (by omega)]
   constructor <;> grind
  ·rw[if_neg c,if_neg (by omega)]
   constructor <;> grind
 ·rw[c1]at e;obtain⟨h1,h2⟩:=half_on (x:=ang x z) (by grind) (by grind)
  rw[show ang x z+2*qt=f by grind]at h1 h2
  by_cases c:q%2=0
  ·rw[if_pos c,if_neg (by omega)]
   constructor <;> grind
  ·rw[if_neg c,if_pos (by omega)]
   constructor <;> grind
 ·rw[cm]at e;obtain⟨h1,h2⟩:=half_on (x:=f) (by grind) (by grind)
  rw[show f+2*qt=ang x z by grind]at h1 h2
  by_cases c:q%2=0
  ·rw[if_pos c,if_neg (by omega)]
   constructor <;> grind
  ·rw[if_neg c,if_pos (by omega)]
   constructor <;> grind
theorem canon{x:Int}{z:Rat}(a: -(17/10)<=ang x z/\ang x z<=17/10):∃(q:Int) (f:Rat),f*SR=z-(q:Rat)*(2*qt*SR)/\ -qt<=f/\f<=qt:=by
 obtain⟨q1,q2⟩:=qt_bd;have p:=ang_at x z
 by_cases c:ang x z<=qt
 ·by_cases d: -qt<=ang x z
  ·exact⟨qI x,ang x z,p,d,c⟩
  ·have d':=Rat.not_le.1 d
   refine⟨qI x-1,ang x z+2*qt,?_,by grind,by grind⟩
   rw[Rat.intCast_sub,c1]
   grind
 ·have c':=Rat.not_le.1 c
  refine⟨qI x+1,ang x z-2*qt,?_,by grind,by grind⟩
  rw[Rat.intCast_add,c1]
  grind
theorem rest_ex (z:Rat)(q:Int):∃f:Rat,f*SR=z-(q:Rat)*(2*qt*SR):=⟨(z-(q:Rat)*(2*qt*SR)) /SR,Rat.div_mul_cancel (Rat.ne_of_gt sr_pos)⟩
theorem units_le{f g u v:Rat}(hf:f*SR=u)(hg:g*SR=v)(h:u<=v):f<=g:=Rat.le_of_mul_le_mul_right (c:=SR) (by rw[hf,hg];exact h) sr_pos
theorem eps_sum:(1/2^186:Rat)+1/2^190+1/2^190<=72/2^192:=by decide +kernel
theorem lower{x x1 x2:Int}{z z1 z2:Rat}(a: -(17/10)<=ang x z/\ang x z<=17/10)(a1: -(17/10)<=ang x1 z1/\ang x1 z1<=17/10)(a2: -(17/10)<=ang x2 z2/\ang x2 z2<=17/10)(h1:z1<=z)(h2:z<=z2):
  (∃i:Int,i%2≠0/\z1<=(2*(i:Rat)+1)*(qt*SR)/\(2*(i:Rat)+1)*(qt*SR)<=z2)\/sinU x1 z1<=sinU x z+72/2^192\/sinU x2 z2<=sinU x z+72/2^192:=by
 obtain⟨q1,q2⟩:=qt_bd;obtain⟨q,f,hf,f1,f2⟩:=canon a;obtain⟨r1,r2⟩:=rep a hf (by grind) (by grind);have sp:=sr_pos;have ep:=eps_sum
 by_cases c:q%2=0
 ·by_cases d:z1<=(2*((q-1:Int):Rat)+1)*(qt*SR)
  ·refine .inl ⟨q-1,by omega,d,?_⟩
   have:=Rat.mul_le_mul_of_nonneg_right f1 (Rat.le_of_lt sp)
   rw[Rat.intCast_sub,c1]
   grind
  ·have d':=Rat.not_le.1 d
   rw[Rat.intCast_sub,c1]at d';obtain⟨g,hg⟩:=rest_ex z1 q
   have g1:g<=f:=units_le hg hf (by grind)
   have g2: -qt<=g:=Rat.le_of_mul_le_mul_right (c:=SR) (by rw[hg];grind) sp
   obtain⟨s1,s2⟩:=rep a1 hg (by grind) (by grind);have m:=sin_mono g2 g1 f2
   unfold sgq at r1 r2 s1 s2
   rw[if_pos c]at r1 r2 s1 s2;have t1:=tiny_lo r1;have t2:=tiny_hi s2;exact .inr (.inl (by grind))
 ·by_cases d:(2*(q:Rat)+1)*(qt*SR)<=z2
  ·refine .inl ⟨q,c,?_,d⟩
   have:=Rat.mul_le_mul_of_nonneg_right f2 (Rat.le_of_lt sp)
   grind
  ·have d':=Rat.not_le.1 d
   obtain⟨g,hg⟩:=rest_ex z2 q
   have g1:f<=g:=units_le hf hg (by grind)
   have g2:g<=qt:=Rat.le_of_mul_le_mul_right (c:=SR) (by rw[hg];grind) sp
   obtain⟨s1,s2⟩:=rep a2 hg (by grind) (by grind);have m:=sin_mono f1 g1 g2
   unfold sgq at r1 r2 s1 s2
   rw[if_neg c]at r1 r2 s1 s2;have t1:=tiny_lo r1;have t2:=tiny_hi s2;exact .inr (.inr (by grind))
end Go.Proofs.YtomikokonmikgaaGreatDoor
namespace Go.Proofs.YtomikokonmikgaaGreatDoor
set_option maxHeartbeats 2000000
open Go.RowKit
set_option linter.unusedVariables false
set_option linter.unusedSimpArgs false
set_option maxRecDepth 100000
def W2 (w:World)(K:Nat)(q r:Int)(e:Ending)(w':World):Prop:=∃s1 A1 n1 c1 s2 A2 n2 c2,e= .returned (.tuple #[.agg #[.bool s1,.slice A1 n1 c1],.agg #[.bool s2,.slice A2 n2 c2]])/\Wn w' s1 A1 n1 c1 q/\Wn w' s2 A2 n2 c2 r/\n1<=K/\n2<=K/\Below w.heap.size w w'
theorem Wn.fits{w:World}{A:Option Addr}{n c K:Nat}{s:Bool}{z:Int}(h:Wn w s A n c z)(hz:z.natAbs < 4294967296^K):n<=K:=by
 have h1:=h.1.len;have h2:=limbs_length_le hz
 omega
theorem jScale{w:World}:Calls Tryz.prog 64 #[] w (W1 w 8 SC):=by
 go_enter Tryz.func64,Tryz.ntmps64
 go_upto_region 1 with (fail)
 generalize hW1:w.alloc _=w1 at *;obtain⟨XR,HB⟩:=Bo.en1 hW1;clear hW1
 go_wp2_with fail
 refine(rShl (a:=1) 192 ⟨_,[1],one_limb w1,rfl⟩ (by decide) (by decide) (by decide)).mono ?_;rintro ee w2 ⟨A2,n2,c2,rfl,p2,k2,B⟩;replace B:=bt (bel1 _ (.cells #[.int .u32 1] 92)) B;replace XR:=XR.b B;replace HB:=Hqb HB B;clear B
 go_wp2_with fail
 refine(qMake false p2.rd).mono ?_;rintro ee w3 ⟨s3,A3,n3,c3,rfl,p3,k3,B⟩;replace XR:=XR.b B;replace HB:=Hqb HB B;clear B;clear p2
 replace p3:Wn w3 s3 A3 n3 c3 SC:=by rw[show SC=sg false (1*2^192) by decide];exact p3
 have xXR:=XR.cell;have zXR0:=XR.frozen;go_wp2;clear xXR zXR0;have SX:=StN.t2 XR s3 A3 n3 c3;replace p3:=p3.s SX;exact bq (v:= .agg #[.bool s3,.slice A3 n3 c3]) (by simp[results,Tryz.results64,go_sem,SX.box.cell]) rfl ⟨s3,A3,n3,c3,rfl,p3,by omega,(SX.below HB.out (by omega))⟩
theorem jDown{w:World}{A:Option Addr}{n c:Nat}{s:Bool}{x:Int}{B:Option Addr}{m d:Nat}{t:Bool}{y:Int}{q:Int}(h:Wr w s A n c x)(k:Wr w t B m d y)(hn:n<=268435456)(hm:m<=268435456)(h0:y≠0)(hq:x.fdiv y=q):Calls Tryz.prog 67 #[.agg #[.bool s,.slice A n c],.agg #[.bool t,.slice B m d]] w (W1 w (n+m+4) q):=by
 go_enter Tryz.func67,Tryz.ntmps67
 go_upto_region 1 with (fail)
 generalize hW1:((w.alloc _).alloc _).alloc _=w1 at *;obtain⟨X2,X3,XR,HB⟩:=Bo.en3 hW1;replace h:=h.below HB.out;replace k:=k.below HB.out;clear hW1;have xX2:=X2.cell;have xX3:=X3.cell
 go_wp2_with fail
 refine(qDiv h k hn hm h0 hq rfl).mono ?_;rintro ee w2 ⟨s8,A8,n8,c8,s9,A9,n9,c9,rfl,p8,p9,k8,k9,B⟩;clear xX2 xX3;replace XR:=XR.b B;replace HB:=Hqb HB B;clear B;clear h k;clear X2 X3
 go_upto_region 2 with (fail)
 have e4X6:(World.alloc w2 (.cells #[.bool s8,.slice A8 n8 c8] 27)).heap.size=w2.heap.size+1:=by simp
 have nX5XR:=XR.lt;have BX:=bel1 w2 (.cells #[.bool s8,.slice A8 n8 c8] 27);replace XR:=XR.b BX;replace p8:=p8.b BX;replace HB:=ie (bt HB.out BX);have X5:=Bo.new w2 #[.bool s8,.slice A8 n8 c8] 27;generalize hWn:World.alloc w2 (.cells #[.bool s8,.slice A8 n8 c8] 27)=w3 at *;clear hWn
 have nX6XR:=XR.lt;have nX6X5:=X5.lt;generalize hWn:w3.alloc _=w4 at *;obtain⟨X6,BW⟩:=Bo.nw hWn;clear hWn;replace XR:=XR.b BW;replace X5:=X5.b BW;replace p8:=p8.b BW;replace HB:=Hqb HB BW;clear BW;rw[e4X6]at X6;clear e4X6;clear p9;have xXR:=XR.cell;have zXR0:=XR.frozen;have xX5:=X5.cell;go_wp2;clear xXR zXR0 xX5
 have SX:=StN.t2 XR s8 A8 n8 c8;replace p8:=p8.s SX;exact bq (v:= .agg #[.bool s8,.slice A8 n8 c8]) (by simp[results,Tryz.results67,go_sem,SX.box.cell]) rfl ⟨s8,A8,n8,c8,rfl,p8,k8,(SX.below HB.out (by omega))⟩
theorem jTimes{w:World}{A:Option Addr}{n c:Nat}{s:Bool}{x:Int}{z r:Int}(h:Wr w s A n c x)(hn:n<=268435456)(h1: -9223372036854775808<=z)(h2:z<=9223372036854775807)(hr:x*z=r):Calls Tryz.prog 63 #[.agg #[.bool s,.slice A n c],.int .i64 z] w (W1 w (n+2) r):=by
 go_enter Tryz.func63,Tryz.ntmps63
 go_upto_region 1 with (fail)
 generalize hW1:(w.alloc _).alloc _=w1 at *;obtain⟨X2,XR,HB⟩:=Bo.en2 hW1;replace h:=h.below HB.out;clear hW1;refine jk [0,1,2,3] [some 5,some 6,some 7,some 8,none] [[],[],[1],[0,2],[]] 5 1 [Jo.Fact.eq (.agg #[.bool s,.slice A n c]),Jo.qi z,Jo.Fact.wn (z) (2),Jo.Fact.wn (r) (n+2),Jo.Fact.any] ?_ ?_
 ·iterate 2 (refine jm ?_ ?_;rotate_left)
  refine jm ?_ ?_
  ·rintro wj hJ _ rfl K hK;simp only[Jo.z]at hK|-;go_simp;exact Jo.w1 (qFrom z _ h1 h2) hK.out
  refine jm ?_ ?_
  ·rintro wj hJ _ rfl _ ⟨s3,A3,n3,c3,rfl,p3,k3⟩ K hK;simp only[Jo.z]at hK|-;go_simp;exact Jo.w1 (qTwo (h.b hJ) p3.wr hn (by omega) hr) hK.out
  exact jo
  all_goals (rintro wj hJ;(repeat rintro _ rfl);intro K hK;simp only[Jo.z]at hK|-;have xX2:=(X2.b hJ).cell;go_simp;exact hK.out _ _ rfl (br _ _))
 rintro w2 hJ _ rfl _ rfl _ ⟨s3,A3,n3,c3,rfl,p3,k3⟩ _ ⟨s4,A4,n4,c4,rfl,p4,k4⟩ -;simp only[Jo.z];replace XR:=XR.b hJ;replace HB:=Hqb HB hJ;clear h;have xXR:=XR.cell;have zXR0:=XR.frozen
 refine jn 4 fun K hK=>?_
 go_simp;refine hK.out _ _ ?_;clear hK K xXR zXR0;have SX:=StN.t2 XR s4 A4 n4 c4;replace p4:=p4.s SX;refine jd ?_;go_wp2;exact bq (v:= .agg #[.bool s4,.slice A4 n4 c4]) (by simp[results,Tryz.results63,go_sem,SX.box.cell]) rfl ⟨s4,A4,n4,c4,rfl,p4,k4,(SX.below HB.out (by omega))⟩
theorem StN.trans{w w' w'':World}{g:Nat}{a b c:Array Value}{T:TypeId}(h:StN w w' g a b T)(k:StN w' w'' g b c T):StN w w'' g a c T:=
 ⟨h.1,k.2.1,fun j hj=>(k.2.2.1 j hj).trans (h.2.2.1 j hj),fun B x hB hb=>k.2.2.2 B x hB (h.2.2.2 B x hB hb)⟩
theorem StN.mk9{w:World}{g:Nat}{T:TypeId}{a0 a1 a2 a3 a4 a5 a6 a7 a8:Value}(X:Bo w g #[a0,a1,a2,a3,a4,a5,a6,a7,a8] T)(v0 v1 v2 v3 v4 v5 v6 v7 v8:Value):
  StN w (((((((((w.setCell ⟨g,0,none⟩ v0).setCell ⟨g,1,none⟩ v1).setCell ⟨g,2,none⟩ v2).setCell ⟨g,3,none⟩ v3).setCell ⟨g,4,none⟩ v4).setCell ⟨g,5,none⟩ v5).setCell ⟨g,6,none⟩ v6).setCell ⟨g,7,none⟩ v7).setCell ⟨g,8,none⟩ v8) g #[a0,a1,a2,a3,a4,a5,a6,a7,a8] #[v0,v1,v2,v3,v4,v5,v6,v7,v8] T:=by
 have t0:StN w (w.setCell ⟨g,0,none⟩ v0) g #[a0,a1,a2,a3,a4,a5,a6,a7,a8] #[v0,a1,a2,a3,a4,a5,a6,a7,a8] T:=StN.at4 X 0 v0
 have s0:=t0
 have t1:StN (w.setCell ⟨g,0,none⟩ v0) ((w.setCell ⟨g,0,none⟩ v0).setCell ⟨g,1,none⟩ v1) g #[v0,a1,a2,a3,a4,a5,a6,a7,a8] #[v0,v1,a2,a3,a4,a5,a6,a7,a8] T:=StN.at4 s0.box 1 v1
 have s1:=s0.trans t1
 have t2:StN ((w.setCell ⟨g,0,none⟩ v0).setCell ⟨g,1,none⟩ v1) (((w.setCell ⟨g,0,none⟩ v0).setCell ⟨g,1,none⟩ v1).setCell ⟨g,2,none⟩ v2) g #[v0,v1,a2,a3,a4,a5,a6,a7,a8] #[v0,v1,v2,a3,a4,a5,a6,a7,a8] T:=StN.at4 s1.box 2 v2
 have s2:=s1.trans t2
 have t3:StN (((w.setCell ⟨g,0,none⟩ v0).setCell ⟨g,1,none⟩ v1).setCell ⟨g,2,none⟩ v2) ((((w.setCell ⟨g,0,none⟩ v0).setCell ⟨g,1,none⟩ v1).setCell ⟨g,2,none⟩ v2).setCell ⟨g,3,none⟩ v3) g #[v0,v1,v2,a3,a4,a5,a6,a7,a8] #[v0,v1,v2,v3,a4,a5,a6,a7,a8] T:=StN.at4 s2.box 3 v3
 have s3:=s2.trans t3
 have t4:StN ((((w.setCell ⟨g,0,none⟩ v0).setCell ⟨g,1,none⟩ v1).setCell ⟨g,2,none⟩ v2).setCell ⟨g,3,none⟩ v3) (((((w.setCell ⟨g,0,none⟩ v0).setCell ⟨g,1,none⟩ v1).setCell ⟨g,2,none⟩ v2).setCell ⟨g,3,none⟩ v3).setCell ⟨g,4,none⟩ v4) g #[v0,v1,v2,v3,a4,a5,a6,a7,a8] #[v0,v1,v2,v3,v4,a5,a6,a7,a8] T:=StN.at4 s3.box 4 v4
 have s4:=s3.trans t4
 have t5:StN (((((w.setCell ⟨g,0,none⟩ v0).setCell ⟨g,1,none⟩ v1).setCell ⟨g,2,none⟩ v2).setCell ⟨g,3,none⟩ v3).setCell ⟨g,4,none⟩ v4) ((((((w.setCell ⟨g,0,none⟩ v0).setCell ⟨g,1,none⟩ v1).setCell ⟨g,2,none⟩ v2).setCell ⟨g,3,none⟩ v3).setCell ⟨g,4,none⟩ v4).setCell ⟨g,5,none⟩ v5) g #[v0,v1,v2,v3,v4,a5,a6,a7,a8] #[v0,v1,v2,v3,v4,v5,a6,a7,a8] T:=StN.at4 s4.box 5 v5
 have s5:=s4.trans t5
 have t6:StN ((((((w.setCell ⟨g,0,none⟩ v0).setCell ⟨g,1,none⟩ v1).setCell ⟨g,2,none⟩ v2).setCell ⟨g,3,none⟩ v3).setCell ⟨g,4,none⟩ v4).setCell ⟨g,5,none⟩ v5) (((((((w.setCell ⟨g,0,none⟩ v0).setCell ⟨g,1,none⟩ v1).setCell ⟨g,2,none⟩ v2).setCell ⟨g,3,none⟩ v3).setCell ⟨g,4,none⟩ v4).setCell ⟨g,5,none⟩ v5).setCell ⟨g,6,none⟩ v6) g #[v0,v1,v2,v3,v4,v5,a6,a7,a8] #[v0,v1,v2,v3,v4,v5,v6,a7,a8] T:=StN.at4 s5.box 6 v6
 have s6:=s5.trans t6
 have t7:StN (((((((w.setCell ⟨g,0,none⟩ v0).setCell ⟨g,1,none⟩ v1).setCell ⟨g,2,none⟩ v2).setCell ⟨g,3,none⟩ v3).setCell ⟨g,4,none⟩ v4).setCell ⟨g,5,none⟩ v5).setCell ⟨g,6,none⟩ v6) ((((((((w.setCell ⟨g,0,none⟩ v0).setCell ⟨g,1,none⟩ v1).setCell ⟨g,2,none⟩ v2).setCell ⟨g,3,none⟩ v3).setCell ⟨g,4,none⟩ v4).setCell ⟨g,5,none⟩ v5).setCell ⟨g,6,none⟩ v6).setCell ⟨g,7,none⟩ v7) g #[v0,v1,v2,v3,v4,v5,v6,a7,a8] #[v0,v1,v2,v3,v4,v5,v6,v7,a8] T:=StN.at4 s6.box 7 v7
 have s7:=s6.trans t7
 have t8:StN ((((((((w.setCell ⟨g,0,none⟩ v0).setCell ⟨g,1,none⟩ v1).setCell ⟨g,2,none⟩ v2).setCell ⟨g,3,none⟩ v3).setCell ⟨g,4,none⟩ v4).setCell ⟨g,5,none⟩ v5).setCell ⟨g,6,none⟩ v6).setCell ⟨g,7,none⟩ v7) (((((((((w.setCell ⟨g,0,none⟩ v0).setCell ⟨g,1,none⟩ v1).setCell ⟨g,2,none⟩ v2).setCell ⟨g,3,none⟩ v3).setCell ⟨g,4,none⟩ v4).setCell ⟨g,5,none⟩ v5).setCell ⟨g,6,none⟩ v6).setCell ⟨g,7,none⟩ v7).setCell ⟨g,8,none⟩ v8) g #[v0,v1,v2,v3,v4,v5,v6,v7,a8] #[v0,v1,v2,v3,v4,v5,v6,v7,v8] T:=StN.at4 s7.box 8 v8
 have s8:=s7.trans t8;exact s8
def Ci (e:Bool)(K:Int)(s:Bool)(M E K':Int)(s':Bool)(M' E':Int):Sp->Prop
 | none=>e=true/\Fq K s M E 0/\Fq K' s' M' E' 0
 | some (a,b)=>e=false/\Fq K s M E a/\Fq K' s' M' E' b/\a<=b/\a < 19342822337206103650074625/\ -19342822337206103650074625 < b
section
variable {e e2:Bool} {K M E K' M' E' K2 M2 E2 K2' M2' E2':Int} {s s' s2 s2':Bool} {x y:Sp}
theorem Ci.top (h:Ci e K s M E K' s' M' E' x):M < 18446744073709551616/\M' < 18446744073709551616:=by
 rcases x with _ | ⟨a,b⟩
 ·exact⟨h.2.1.top,h.2.2.top⟩
 ·exact⟨h.2.1.top,h.2.2.1.top⟩
theorem Ci.uniq (h:Ci e K s M E K' s' M' E' x)(k:Ci e2 K2 s2 M2 E2 K2' s2' M2' E2' x):e=e2/\K=K2/\s=s2/\M=M2/\E=E2/\K'=K2'/\s'=s2'/\M'=M2'/\E'=E2':=by
 rcases x with _ | ⟨a,b⟩
 ·obtain⟨h1,q1,q2⟩:=h;obtain⟨k1,p1,p2⟩:=k;obtain⟨c1,c2,c3,c4⟩:=q1.uniq p1;obtain⟨d1,d2,d3,d4⟩:=q2.uniq p2;exact⟨h1.trans k1.symm,c1,c2,c3,c4,d1,d2,d3,d4⟩
 ·obtain⟨h1,q1,q2,_⟩:=h;obtain⟨k1,p1,p2,_⟩:=k;obtain⟨c1,c2,c3,c4⟩:=q1.uniq p1;obtain⟨d1,d2,d3,d4⟩:=q2.uniq p2;exact⟨h1.trans k1.symm,c1,c2,c3,c4,d1,d2,d3,d4⟩
end
theorem Ci.none:Ci true 0 false 0 0 0 false 0 0 none:=⟨rfl,Fq.nought,Fq.nought⟩
def rkI (e:Bool)(K:Int)(s:Bool)(M E K':Int)(s':Bool)(M' E':Int):Sp:=if e=true then none else if MayQ K s M E/\MayQ K' s' M' E' then mkI (rk K s M E) (rk K' s' M' E')else none
def mayI (e:Bool)(K:Int)(s:Bool)(M E K':Int)(s':Bool)(M' E':Int):Bool:=if e=true then (decide (K=0/\s=false/\M=0/\E=0) && decide (K'=0/\s'=false/\M'=0/\E'=0))else decide (rkI e K s M E K' s' M' E'≠none)
section
variable {e:Bool} {K M E K' M' E':Int} {s s':Bool} {x:Sp}
theorem rkI_t:rkI true K s M E K' s' M' E'=none:=if_pos rfl
theorem rkI_f:rkI false K s M E K' s' M' E'=if MayQ K s M E/\MayQ K' s' M' E' then mkI (rk K s M E) (rk K' s' M' E')else none:=if_neg ff
theorem rkI_ok (hM:LQ M)(hM':LQ M'):SpOk (rkI e K s M E K' s' M' E'):=by
 cases e
 ·rw[rkI_f]
  by_cases h:MayQ K s M E/\MayQ K' s' M' E'
  ·rw[if_pos h];exact mkI_ok (rk_fq hM h.1).bd.1 (rk_fq hM' h.2).bd.2
  ·rw[if_neg h];exact trivial
 ·exact trivial
theorem mayI_ci (hM:LQ M)(hM':LQ M')(h:mayI e K s M E K' s' M' E'=true):Ci e K s M E K' s' M' E' (rkI e K s M E K' s' M' E'):=by
 unfold mayI at h
 cases e
 ·rw[if_neg ff,decide_eq_true_iff]at h;rw[rkI_f]at h|-
  by_cases hq:MayQ K s M E/\MayQ K' s' M' E'
  ·rw[if_pos hq]at h|-
   by_cases hc:rk K s M E<=rk K' s' M' E'/\rk K s M E < 19342822337206103650074625/\ -19342822337206103650074625 < rk K' s' M' E'
   ·rw[mkI_some hc.1 hc.2.1 hc.2.2];exact⟨rfl,rk_fq hM hq.1,rk_fq hM' hq.2,hc⟩
   ·exact absurd (mkI_none hc) h
  ·rw[if_neg hq]at h;exact absurd rfl h
 ·rw[if_pos rfl,Bool.and_eq_true,decide_eq_true_iff,decide_eq_true_iff]at h;obtain⟨⟨rfl,rfl,rfl,rfl⟩,rfl,rfl,rfl,rfl⟩:=h;exact Ci.none
theorem mayI_no (h:mayI e K s M E K' s' M' E'=false):rkI e K s M E K' s' M' E'=none:=by
 cases e
 ·unfold mayI at h
  rw[if_neg ff,decide_eq_false_iff_not]at h;exact Decidable.not_not.1 h
 ·exact rkI_t
theorem Ci.rk (h:Ci e K s M E K' s' M' E' x):rkI e K s M E K' s' M' E'=x:=by
 rcases x with _ | ⟨a,b⟩
 ·obtain⟨rfl,_⟩:=h;exact rkI_t
 ·obtain⟨rfl,q1,q2,h1,h2,h3⟩:=h;rw[rkI_f,if_pos ⟨q1.1,q2.1⟩,q1.rk,q2.rk,mkI_some h1 h2 h3]
theorem Ci.may (h:Ci e K s M E K' s' M' E' x):mayI e K s M E K' s' M' E'=true:=by
 have hr:=h.rk
 unfold mayI
 rcases x with _ | ⟨a,b⟩
 ·obtain⟨rfl,q1,q2⟩:=h;obtain⟨rfl,rfl,rfl,rfl⟩:=q1.uniq Fq.nought;obtain⟨rfl,rfl,rfl,rfl⟩:=q2.uniq Fq.nought
  rfl
 ·obtain⟨rfl,_⟩:=h;rw[if_neg ff,hr]
  rfl
end
def PV (w:World)(x:Sp)(e:Ending)(w':World):Prop:=∃e0 K s M E K' s' M' E',e= .returned (.agg #[.bool e0,.int .i64 K,.bool s,.int .u64 M,.int .i64 E,.int .i64 K',.bool s',.int .u64 M',.int .i64 E'])/\Ci e0 K s M E K' s' M' E' x/\Below w.heap.size w w'
def Jo.Fact.iv (x:Sp):Jo.Fact:=⟨fun v w=>∃e0 K s M E K' s' M' E',v= .agg #[.bool e0,.int .i64 K,.bool s,.int .u64 M,.int .i64 E,.int .i64 K',.bool s',.int .u64 M',.int .i64 E']/\Ci e0 K s M E K' s' M' E' x,fun v w w' h b=>h⟩
def Il8 (w:World)(A:Option Addr)(n c:Nat)(l:List Sp):Prop:=
 l.length=n/\n<=c/\n<=1099511627776/\(0 < n->∃b o,A=some ⟨b,o,none⟩/\∀k,k < n->∃e K s M E K' s' M' E',w.cell? ⟨b,o+k*9,none⟩=some (.bool e)/\w.cell? ⟨b,o+k*9+1,none⟩=some (.int .i64 K)/\w.cell? ⟨b,o+k*9+2,none⟩=some (.bool s)/\w.cell? ⟨b,o+k*9+3,none⟩=some (.int .u64 M)/\w.cell? ⟨b,o+k*9+4,none⟩=some (.int .i64 E)/\w.cell? ⟨b,o+k*9+5,none⟩=some (.int .i64 K')/\w.cell? ⟨b,o+k*9+6,none⟩=some (.bool s')/\w.cell? ⟨b,o+k*9+7,none⟩=some (.int .u64 M')/\w.cell? ⟨b,o+k*9+8,none⟩=some (.int .i64 E')/\M < 18446744073709551616/\M' < 18446744073709551616/\rkI e K s M E K' s' M' E'=l.getD k none)
theorem Il8.below{w w':World}{A:Option Addr}{n c:Nat}{l:List Sp}(h:Il8 w A n c l)(hb:Below w.heap.size w w'):Il8 w' A n c l:=by
 obtain⟨h1,h2,h3,h4⟩:=h
 refine⟨h1,h2,h3,fun hn=>?_⟩
 obtain⟨b,o,e,hc⟩:=h4 hn
 refine⟨b,o,e,fun k hk=>?_⟩
 obtain⟨e,K,s,M,E,K',s',M',E',c0,c1,c2,c3,c4,c5,c6,c7,c8,hM,hM',hr⟩:=hc k hk
 have t:∀{i:Nat} {v:Value},w.cell? ⟨b,i,none⟩=some v->w'.cell? ⟨b,i,none⟩=some v:=fun c=>(hb.cell (p:=⟨b,_,none⟩) (block_lt_of_cell c)).trans c
 exact⟨e,K,s,M,E,K',s',M',E',t c0,t c1,t c2,t c3,t c4,t c5,t c6,t c7,t c8,hM,hM',hr⟩
abbrev Il8.b:= @Il8.below
theorem Il8.ok{w:World}{A:Option Addr}{n c:Nat}{l:List Sp}(h:Il8 w A n c l):∀y ∈ l,SpOk y:=by
 intro y hy
 obtain⟨k,hk,e⟩:=List.getElem_of_mem hy;obtain⟨h1,h2,h3,h4⟩:=h;obtain⟨b,o,_,hc⟩:=h4 (by omega);obtain⟨e0,K,s,M,E,K',s',M',E',_,_,_,_,_,_,_,_,_,hM,hM',hr⟩:=hc k (by omega)
 have:l.getD k none=y:=by
  rw[List.getD_eq_getElem?_getD,List.getElem?_eq_getElem hk,e]
  rfl
 rw[<-this,<-hr];exact rkI_ok hM hM'
theorem StN.of9{w w1:World}{g:Nat}{T:TypeId}{a0 a1 a2 a3 a4 a5 a6 a7 a8 v0 v1 v2 v3 v4 v5 v6 v7 v8:Value}(X:Bo w g #[a0,a1,a2,a3,a4,a5,a6,a7,a8] T)(h:((((((((w.setCell ⟨g,0,none⟩ v0).setCell ⟨g,1,none⟩ v1).setCell ⟨g,2,none⟩ v2).setCell ⟨g,3,none⟩ v3).setCell ⟨g,4,none⟩ v4).setCell ⟨g,5,none⟩ v5).setCell ⟨g,6,none⟩ v6).setCell ⟨g,7,none⟩ v7).setCell ⟨g,8,none⟩ v8=w1):StN w w1 g #[a0,a1,a2,a3,a4,a5,a6,a7,a8] #[v0,v1,v2,v3,v4,v5,v6,v7,v8] T:=h▸StN.mk9 X v0 v1 v2 v3 v4 v5 v6 v7 v8
open Go in
theorem Jo.v1{P:Program}{f:FuncId}{a:Array Value}{w:World}{Q:Ending->World->Prop}{R:Value->World->Prop}{z:Sp}(h:Calls P f a w (PV w z))(hR:∀v w',(Jo.Fact.iv z).P v w'->Jo.Grow w w'->R v w')(hQ:∀v w',R v w'->Q (.returned v) w':=by exact fun _ _ h=>h):Calls P f a w Q:=by
 refine h.mono ?_
 rintro e w' ⟨e0,K,s,M,E,K',s',M',E',rfl,p,B⟩
 exact hQ _ _ (hR _ _ ⟨e0,K,s,M,E,K',s',M',E',rfl,p⟩ B)
theorem StN.t9{w:World}{g:Nat}{T:TypeId}{a0 a1 a2 a3 a4 a5 a6 a7 a8:Value}(X:Bo w g #[a0,a1,a2,a3,a4,a5,a6,a7,a8] T)(e:Bool)(K:Int)(s:Bool)(M E K':Int)(s':Bool)(M' E':Int):StN w (((((((((w.setCell ⟨g,0,none⟩ (.bool e)).setCell ⟨g,1,none⟩ (.int .i64 K)).setCell ⟨g,2,none⟩ (.bool s)).setCell ⟨g,3,none⟩ (.int .u64 M)).setCell ⟨g,4,none⟩ (.int .i64 E)).setCell ⟨g,5,none⟩ (.int .i64 K')).setCell ⟨g,6,none⟩ (.bool s')).setCell ⟨g,7,none⟩ (.int .u64 M')).setCell ⟨g,8,none⟩ (.int .i64 E')) g #[a0,a1,a2,a3,a4,a5,a6,a7,a8] #[.bool e,.int .i64 K,.bool s,.int .u64 M,.int .i64 E,.int .i64 K',.bool s',.int .u64 M',.int .i64 E'] T:=StN.mk9 X _ _ _ _ _ _ _ _ _
end Go.Proofs.YtomikokonmikgaaGreatDoor
namespace Go.Proofs.YtomikokonmikgaaGreatDoor
set_option maxHeartbeats 2000000
open Go.RowKit
set_option linter.unusedVariables false
set_option linter.unusedSimpArgs false
set_option maxRecDepth 100000
theorem fq_inf2 (s:Bool):Fq 2 s 0 0 (sgi s TP):=⟨.inr (.inr ⟨rfl,rfl,rfl⟩),by decide,by
 cases s <;> rfl⟩
theorem yInfE{w:World}(s:Bool):Calls Tryz.prog 168 #[.bool s] w (fun e w'=>e= .returned (.agg #[.int .i64 2,.bool s,.int .u64 0,.int .i64 0])/\Below w.heap.size w w'):=by
 refine(yInf (s:=s) rfl).mono ?_;rintro ee w2 ⟨K,s1,M,E,rfl,q,B⟩;obtain⟨rfl,rfl,rfl,rfl⟩:=q.uniq (fq_inf2 s);exact⟨rfl,B⟩
theorem jvNone{w:World}:Calls Tryz.prog 93 #[] w (PV w none):=by
 go_enter Tryz.func93,Tryz.ntmps93
 go_upto_region 1 with (fail)
 generalize hW1:w.alloc _=w1 at *;obtain⟨XR,HB⟩:=Bo.en1 hW1;clear hW1;have xXR:=XR.cell;have zXR0:=XR.frozen;go_wp2;clear xXR zXR0;have SX:=StN.t9 XR true 0 false 0 0 0 false 0 0;exact bq (by simp[results,Tryz.results93,go_sem,SX.box.cell]) rfl ⟨_,_,_,_,_,_,_,_,_,rfl,Ci.none,(SX.below HB.out (by omega))⟩
theorem jvNoneE{w:World}:Calls Tryz.prog 93 #[] w (fun e w'=>e= .returned (.agg #[.bool true,.int .i64 0,.bool false,.int .u64 0,.int .i64 0,.int .i64 0,.bool false,.int .u64 0,.int .i64 0])/\Below w.heap.size w w'):=by
 refine jvNone.mono ?_;rintro ee w2 ⟨e1,K1,s1,M1,E1,K1b,s1b,M1b,E1b,rfl,v1,B⟩;obtain⟨rfl,rfl,rfl,rfl,rfl,rfl,rfl,rfl,rfl⟩:=v1.uniq Ci.none;exact⟨rfl,B⟩
theorem jvmay_t{w:World}{D M E D' M' E':Int}{s s':Bool}{r:Bool}(hr:mayI true D s M E D' s' M' E'=r):Calls Tryz.prog 172 #[VI true D s M E D' s' M' E'] w (PB w r):=by
 delta VI
 have HR:=ie hr;clear hr
 go_enter Tryz.func172,Tryz.ntmps172
 go_upto_region 1 with (fail)
 generalize hW1:w.alloc _=w1 at *;obtain⟨X1,HB⟩:=Bo.en1 hW1;clear hW1;have xX1:=X1.cell
 go_upto_region 2 with (fail)
 clear xX1;refine jk [0,1,2,3] [some 7,some 8,some 9,some 2] [[],[],[0,1],[2]] 4 0 [Jo.q9 true D s M E D' s' M' E',Jo.q9 true 0 false 0 0 0 false 0 0,Jo.qb r,Jo.qb r] ?_ ?_
 ·refine jm ?_ ?_;rotate_left
  refine jm ?_ ?_
  ·rintro wj hJ K hK;simp only[Jo.z]at hK|-;go_simp;refine(jvNoneE).mono ?_;rintro ee wk ⟨rfl,B⟩;exact hK.out _ _ rfl B
  refine jm ?_ ?_
  ·rintro wj hJ _ rfl _ rfl K hK;simp only[Jo.z]at hK|-;go_simp
   repeat' split
   all_goals exact hK.out _ _ (congrArg Value.bool (by rw[<-HR.out];unfold mayI;simp[*])) (br _ _)
  refine jm ?_ ?_;rotate_left
  exact jo
  all_goals (rintro wj hJ;(repeat rintro _ rfl);intro K hK;simp only[Jo.z]at hK|-;have xX1:=(X1.b hJ).cell;go_simp;exact hK.out _ _ rfl (br _ _))
 rintro w8 hJ _ rfl _ rfl _ rfl _ rfl -;simp only[Jo.z];replace HB:=Hqb HB hJ;refine jd ?_;go_wp2
 go_ret
 exact⟨rfl,HB.out⟩
theorem jvmay_fp{w:World}{D M E D' M' E':Int}{s s':Bool}(hM:(M:Int) < 18446744073709551616)(hM':(M':Int) < 18446744073709551616)(hp:decide (MayQ D s M E)=false){q:Bool}(hq:decide (MayQ D' s' M' E')=q):Calls Tryz.prog 172 #[VI false D s M E D' s' M' E'] w (PB w false):=by
 delta VI
 have HP:=ie hp;have HQ:=ie hq;clear hp hq
 go_enter Tryz.func172,Tryz.ntmps172
 go_upto_region 1 with (fail)
 generalize hW1:w.alloc _=w1 at *;obtain⟨X1,HB⟩:=Bo.en1 hW1;clear hW1;have xX1:=X1.cell
 go_wp2_with fail
 refine(yMay HP.out).mono ?_;rintro ee w2 ⟨rfl,B⟩;clear xX1;replace X1:=X1.b B;replace HB:=Hqb HB B;clear B;have xX1:=X1.cell
 go_wp2_with fail
 refine(yMay HQ.out).mono ?_;rintro ee w3 ⟨rfl,B⟩;clear xX1;replace X1:=X1.b B;replace HB:=Hqb HB B;clear B;have xX1:=X1.cell
 go_upto_region 5 with (fail)
 clear xX1;refine jk [0,1,2,3,4,5,6,7,8,9,10,11,12,13,14,15,16,17,18,19,20,21,22,23,24] [some 16,some 17,some 18,some 19,some 20,some 21,some 22,some 23,some 24,some 25,some 26,some 27,some 28,some 29,some 30,some 31,some 32,some 33,some 34,some 35,some 36,some 37,some 38,some 39,some 2] [[],[0],[1],[1,2],[3],[4],[4,5],[4],[4,7],[4,6,8],[4,9],[4,10],[11],[12],[12,13],[12],[12,14,15],[12,16],[17],[18],[18,19],[18],[18,20,21],[18,22],[23]] 25 0 [Jo.qb false,Jo.qb false,Jo.qu,Jo.qb false,Jo.qb false,Jo.qu,Jo.qu,Jo.qu,Jo.qu,Jo.qu,Jo.qu,Jo.qb false,Jo.qb false,Jo.qu,Jo.qu,Jo.qu,Jo.qu,Jo.qb false,Jo.qb false,Jo.qu,Jo.qu,Jo.qu,Jo.qu,Jo.qb false,Jo.qb false] ?_ ?_
 ·iterate 25 (refine jm ?_ ?_;rotate_left)
  exact jo
  all_goals (rintro wj hJ;(repeat rintro _ rfl);intro K hK;simp only[Jo.z]at hK|-;go_simp;exact hK.out _ _ rfl (br _ _))
 rintro w8 hJ _ rfl _ rfl _ rfl _ rfl _ rfl _ rfl _ rfl _ rfl _ rfl _ rfl _ rfl _ rfl _ rfl _ rfl _ rfl _ rfl _ rfl _ rfl _ rfl _ rfl _ rfl _ rfl _ rfl _ rfl _ rfl -;simp only[Jo.z];replace HB:=Hqb HB hJ;refine jd ?_;go_wp2
 go_ret
 exact⟨rfl,HB.out⟩
theorem jvmay_fq{w:World}{D M E D' M' E':Int}{s s':Bool}(hM:(M:Int) < 18446744073709551616)(hM':(M':Int) < 18446744073709551616)(hp:decide (MayQ D s M E)=true)(hq:decide (MayQ D' s' M' E')=false):Calls Tryz.prog 172 #[VI false D s M E D' s' M' E'] w (PB w false):=by
 delta VI
 have HP:=ie hp;have HQ:=ie hq;clear hp hq
 go_enter Tryz.func172,Tryz.ntmps172
 go_upto_region 1 with (fail)
 generalize hW1:w.alloc _=w1 at *;obtain⟨X1,HB⟩:=Bo.en1 hW1;clear hW1;have xX1:=X1.cell
 go_wp2_with fail
 refine(yMay HP.out).mono ?_;rintro ee w2 ⟨rfl,B⟩;clear xX1;replace X1:=X1.b B;replace HB:=Hqb HB B;clear B;have xX1:=X1.cell
 go_wp2_with fail
 refine(yMay HQ.out).mono ?_;rintro ee w3 ⟨rfl,B⟩;clear xX1;replace X1:=X1.b B;replace HB:=Hqb HB B;clear B;have xX1:=X1.cell
 go_upto_region 5 with (fail)
 clear xX1;refine jk [0,1,2,3,4,5,6,7,8,9,10,11,12,13,14,15,16,17,18,19,20,21,22,23,24] [some 16,some 17,some 18,some 19,some 20,some 21,some 22,some 23,some 24,some 25,some 26,some 27,some 28,some 29,some 30,some 31,some 32,some 33,some 34,some 35,some 36,some 37,some 38,some 39,some 2] [[],[0],[1],[1,2],[3],[4],[4,5],[4],[4,7],[4,6,8],[4,9],[4,10],[11],[12],[12,13],[12],[12,14,15],[12,16],[17],[18],[18,19],[18],[18,20,21],[18,22],[23]] 25 0 [Jo.qb true,Jo.qb true,Jo.qb false,Jo.qb false,Jo.qb false,Jo.qu,Jo.qu,Jo.qu,Jo.qu,Jo.qu,Jo.qu,Jo.qb false,Jo.qb false,Jo.qu,Jo.qu,Jo.qu,Jo.qu,Jo.qb false,Jo.qb false,Jo.qu,Jo.qu,Jo.qu,Jo.qu,Jo.qb false,Jo.qb false] ?_ ?_
 ·iterate 25 (refine jm ?_ ?_;rotate_left)
  exact jo
  all_goals (rintro wj hJ;(repeat rintro _ rfl);intro K hK;simp only[Jo.z]at hK|-;go_simp;exact hK.out _ _ rfl (br _ _))
 rintro w8 hJ _ rfl _ rfl _ rfl _ rfl _ rfl _ rfl _ rfl _ rfl _ rfl _ rfl _ rfl _ rfl _ rfl _ rfl _ rfl _ rfl _ rfl _ rfl _ rfl _ rfl _ rfl _ rfl _ rfl _ rfl _ rfl -;simp only[Jo.z];replace HB:=Hqb HB hJ;refine jd ?_;go_wp2
 go_ret
 exact⟨rfl,HB.out⟩
theorem jvmay_fc{w:World}{D M E D' M' E' c:Int}{s s':Bool}(hM:(M:Int) < 18446744073709551616)(hM':(M':Int) < 18446744073709551616)(hp:decide (MayQ D s M E)=true)(hq:decide (MayQ D' s' M' E')=true)(hc:cmpI (rk D s M E) (rk D' s' M' E')=c)(hc0:decide (c<=0)=false):Calls Tryz.prog 172 #[VI false D s M E D' s' M' E'] w (PB w false):=by
 delta VI
 have HP:=ie hp;have HQ:=ie hq;have HC:=ie hc;have HC0:=ie hc0;clear hp hq hc hc0
 go_enter Tryz.func172,Tryz.ntmps172
 go_upto_region 1 with (fail)
 generalize hW1:w.alloc _=w1 at *;obtain⟨X1,HB⟩:=Bo.en1 hW1;clear hW1;have xX1:=X1.cell
 go_wp2_with fail
 refine(yMay HP.out).mono ?_;rintro ee w2 ⟨rfl,B⟩;clear xX1;replace X1:=X1.b B;replace HB:=Hqb HB B;clear B;have xX1:=X1.cell
 go_wp2_with fail
 refine(yMay HQ.out).mono ?_;rintro ee w3 ⟨rfl,B⟩;clear xX1;replace X1:=X1.b B;replace HB:=Hqb HB B;clear B;have xX1:=X1.cell
 go_upto_region 5 with (fail)
 clear xX1;refine jk [0,1,2,3,4,5,6,7,8,9,10,11,12,13,14,15,16,17,18,19,20,21,22,23,24] [some 16,some 17,some 18,some 19,some 20,some 21,some 22,some 23,some 24,some 25,some 26,some 27,some 28,some 29,some 30,some 31,some 32,some 33,some 34,some 35,some 36,some 37,some 38,some 39,some 2] [[],[0],[1],[1,2],[3],[4],[4,5],[4],[4,7],[4,6,8],[4,9],[4,10],[11],[12],[12,13],[12],[12,14,15],[12,16],[17],[18],[18,19],[18],[18,20,21],[18,22],[23]] 25 0 [Jo.qb true,Jo.qb true,Jo.qb true,Jo.qb true,Jo.qb true,Jo.qp w.heap.size 1,Jo.q4 D s M E,Jo.qp w.heap.size 5,Jo.q4 D' s' M' E',Jo.qi c,Jo.qb false,Jo.qb false,Jo.qb false,Jo.qu,Jo.qu,Jo.qu,Jo.qu,Jo.qb false,Jo.qb false,Jo.qu,Jo.qu,Jo.qu,Jo.qu,Jo.qb false,Jo.qb false] ?_ ?_
 ·iterate 9 (refine jm ?_ ?_;rotate_left)
  refine jm ?_ ?_
  ·rintro wj hJ _ rfl _ rfl _ rfl K hK;simp only[Jo.z]at hK|-;go_simp;refine(yCmp hM hM' HC.out).mono ?_;rintro ee wk ⟨rfl,B⟩;exact hK.out _ _ rfl B
  refine jm ?_ ?_
  ·rintro wj hJ _ rfl _ rfl K hK;simp only[Jo.z]at hK|-;have hc0:=HC0.out;go_simp
   exact hK.out _ _ (by first | rfl | (show Value.bool _=Value.bool _;rw[hc0]) | simp_all) (br _ _)
  iterate 14 (refine jm ?_ ?_;rotate_left)
  exact jo
  all_goals (rintro wj hJ;(repeat rintro _ rfl);intro K hK;simp only[Jo.z]at hK|-;have xX1:=(X1.b hJ).cell;go_simp;exact hK.out _ _ rfl (br _ _))
 rintro w8 hJ _ rfl _ rfl _ rfl _ rfl _ rfl _ _ _ rfl _ _ _ rfl _ rfl _ rfl _ rfl _ rfl _ rfl _ rfl _ rfl _ rfl _ rfl _ rfl _ rfl _ rfl _ rfl _ rfl _ rfl _ rfl -;simp only[Jo.z];replace HB:=Hqb HB hJ;refine jd ?_;go_wp2
 go_ret
 exact⟨rfl,HB.out⟩
theorem jvmay_ft{w:World}{D' M' E' c:Int}{s':Bool}(hM:(0:Int) < 18446744073709551616)(hM':(M':Int) < 18446744073709551616)(hq:decide (MayQ D' s' M' E')=true)(hc:cmpI (rk 2 false 0 0) (rk D' s' M' E')=c)(hc0:decide (c<=0)=true):Calls Tryz.prog 172 #[VI false 2 false 0 0 D' s' M' E'] w (PB w false):=by
 delta VI
 have HP:Hid (decide (MayQ 2 false 0 0)=true):=ie (by decide)
 have HN1:=ie trivial;have HQ:=ie hq;have HC:=ie hc;have HC0:=ie hc0;clear hq hc hc0
 go_enter Tryz.func172,Tryz.ntmps172
 go_upto_region 1 with (fail)
 generalize hW1:w.alloc _=w1 at *;obtain⟨X1,HB⟩:=Bo.en1 hW1;clear hW1;have xX1:=X1.cell
 go_wp2_with fail
 refine(yMay HP.out).mono ?_;rintro ee w2 ⟨rfl,B⟩;clear xX1;replace X1:=X1.b B;replace HB:=Hqb HB B;clear B;have xX1:=X1.cell
 go_wp2_with fail
 refine(yMay HQ.out).mono ?_;rintro ee w3 ⟨rfl,B⟩;clear xX1;replace X1:=X1.b B;replace HB:=Hqb HB B;clear B;have xX1:=X1.cell
 go_upto_region 5 with (fail)
 clear xX1;refine jk [0,1,2,3,4,5,6,7,8,9,10,11,12,13,14,15,16,17,18,19,20,21,22,23,24] [some 16,some 17,some 18,some 19,some 20,some 21,some 22,some 23,some 24,some 25,some 26,some 27,some 28,some 29,some 30,some 31,some 32,some 33,some 34,some 35,some 36,some 37,some 38,some 39,some 2] [[],[0],[1],[1,2],[3],[4],[4,5],[4],[4,7],[4,6,8],[4,9],[4,10],[11],[12],[12,13],[12],[12,14,15],[12,16],[17],[18],[18,19],[18],[18,20,21],[18,22],[23]] 25 0 [Jo.qb true,Jo.qb true,Jo.qb true,Jo.qb true,Jo.qb true,Jo.qp w.heap.size 1,Jo.q4 2 false 0 0,Jo.qp w.heap.size 5,Jo.q4 D' s' M' E',Jo.qi c,Jo.qb true,Jo.qb true,Jo.qb true,Jo.qp w.heap.size 1,Jo.q4 2 false 0 0,Jo.q4 2 false 0 0,Jo.qb false,Jo.qb false,Jo.qb false,Jo.qu,Jo.qu,Jo.qu,Jo.qu,Jo.qb false,Jo.qb false] ?_ ?_
 ·iterate 9 (refine jm ?_ ?_;rotate_left)
  refine jm ?_ ?_
  ·rintro wj hJ _ rfl _ rfl _ rfl K hK;simp only[Jo.z]at hK|-;go_simp;refine(yCmp hM hM' HC.out).mono ?_;rintro ee wk ⟨rfl,B⟩;exact hK.out _ _ rfl B
  refine jm ?_ ?_
  ·rintro wj hJ _ rfl _ rfl K hK;simp only[Jo.z]at hK|-;have hc0:=HC0.out;go_simp
   exact hK.out _ _ (by first | rfl | (show Value.bool _=Value.bool _;rw[hc0]) | simp_all) (br _ _)
  iterate 4 (refine jm ?_ ?_;rotate_left)
  refine jm ?_ ?_
  ·rintro wj hJ _ rfl K hK;simp only[Jo.z]at hK|-;go_simp;refine(yInfE false).mono ?_;rintro ee wk ⟨rfl,B⟩;exact hK.out _ _ rfl B
  refine jm ?_ ?_
  ·rintro wj hJ _ rfl _ rfl _ rfl K hK;simp only[Jo.z]at hK|-;have hne:=HN1.out;go_simp
   repeat' split
   all_goals exact hK.out _ _ (congrArg Value.bool (by first | rfl | (exfalso;simp_all))) (br _ _)
  iterate 8 (refine jm ?_ ?_;rotate_left)
  exact jo
  all_goals (rintro wj hJ;(repeat rintro _ rfl);intro K hK;simp only[Jo.z]at hK|-;have xX1:=(X1.b hJ).cell;go_simp;exact hK.out _ _ rfl (br _ _))
 rintro w8 hJ _ rfl _ rfl _ rfl _ rfl _ rfl _ _ _ rfl _ _ _ rfl _ rfl _ rfl _ rfl _ rfl _ _ _ rfl _ rfl _ rfl _ rfl _ rfl _ rfl _ rfl _ rfl _ rfl _ rfl _ rfl -;simp only[Jo.z];replace HB:=Hqb HB hJ;refine jd ?_;go_wp2
 go_ret
 exact⟨rfl,HB.out⟩
theorem jvmay_fb{w:World}{D M E c:Int}{s:Bool}(hM:(M:Int) < 18446744073709551616)(hM':(0:Int) < 18446744073709551616)(hp:decide (MayQ D s M E)=true)(hc:cmpI (rk D s M E) (rk 2 true 0 0)=c)(hc0:decide (c<=0)=true)(h1:¬(D=2/\s=false/\M=0/\E=0)):Calls Tryz.prog 172 #[VI false D s M E 2 true 0 0] w (PB w false):=by
 delta VI
 have HQ:Hid (decide (MayQ 2 true 0 0)=true):=ie (by decide)
 have HN2:=ie trivial;have HP:=ie hp;have HC:=ie hc;have HC0:=ie hc0;have HN1:=ie h1;clear hp hc hc0 h1
 go_enter Tryz.func172,Tryz.ntmps172
 go_upto_region 1 with (fail)
 generalize hW1:w.alloc _=w1 at *;obtain⟨X1,HB⟩:=Bo.en1 hW1;clear hW1;have xX1:=X1.cell
 go_wp2_with fail
 refine(yMay HP.out).mono ?_;rintro ee w2 ⟨rfl,B⟩;clear xX1;replace X1:=X1.b B;replace HB:=Hqb HB B;clear B;have xX1:=X1.cell
 go_wp2_with fail
 refine(yMay HQ.out).mono ?_;rintro ee w3 ⟨rfl,B⟩;clear xX1;replace X1:=X1.b B;replace HB:=Hqb HB B;clear B;have xX1:=X1.cell
 go_upto_region 5 with (fail)
 clear xX1;refine jk [0,1,2,3,4,5,6,7,8,9,10,11,12,13,14,15,16,17,18,19,20,21,22,23,24] [some 16,some 17,some 18,some 19,some 20,some 21,some 22,some 23,some 24,some 25,some 26,some 27,some 28,some 29,some 30,some 31,some 32,some 33,some 34,some 35,some 36,some 37,some 38,some 39,some 2] [[],[0],[1],[1,2],[3],[4],[4,5],[4],[4,7],[4,6,8],[4,9],[4,10],[11],[12],[12,13],[12],[12,14,15],[12,16],[17],[18],[18,19],[18],[18,20,21],[18,22],[23]] 25 0 [Jo.qb true,Jo.qb true,Jo.qb true,Jo.qb true,Jo.qb true,Jo.qp w.heap.size 1,Jo.q4 D s M E,Jo.qp w.heap.size 5,Jo.q4 2 true 0 0,Jo.qi c,Jo.qb true,Jo.qb true,Jo.qb true,Jo.qp w.heap.size 1,Jo.q4 D s M E,Jo.q4 2 false 0 0,Jo.qb true,Jo.qb true,Jo.qb true,Jo.qp w.heap.size 5,Jo.q4 2 true 0 0,Jo.q4 2 true 0 0,Jo.qb false,Jo.qb false,Jo.qb false] ?_ ?_
 ·iterate 9 (refine jm ?_ ?_;rotate_left)
  refine jm ?_ ?_
  ·rintro wj hJ _ rfl _ rfl _ rfl K hK;simp only[Jo.z]at hK|-;go_simp;refine(yCmp hM hM' HC.out).mono ?_;rintro ee wk ⟨rfl,B⟩;exact hK.out _ _ rfl B
  refine jm ?_ ?_
  ·rintro wj hJ _ rfl _ rfl K hK;simp only[Jo.z]at hK|-;have hc0:=HC0.out;go_simp
   exact hK.out _ _ (by first | rfl | (show Value.bool _=Value.bool _;rw[hc0]) | simp_all) (br _ _)
  iterate 4 (refine jm ?_ ?_;rotate_left)
  refine jm ?_ ?_
  ·rintro wj hJ _ rfl K hK;simp only[Jo.z]at hK|-;go_simp;refine(yInfE false).mono ?_;rintro ee wk ⟨rfl,B⟩;exact hK.out _ _ rfl B
  refine jm ?_ ?_
  ·rintro wj hJ _ rfl _ rfl _ rfl K hK;simp only[Jo.z]at hK|-;have hne:=HN1.out;go_simp
   repeat' split
   all_goals exact hK.out _ _ (congrArg Value.bool (by first | rfl | (exfalso;simp_all))) (br _ _)
  iterate 4 (refine jm ?_ ?_;rotate_left)
  refine jm ?_ ?_
  ·rintro wj hJ _ rfl K hK;simp only[Jo.z]at hK|-;go_simp;refine(yInfE true).mono ?_;rintro ee wk ⟨rfl,B⟩;exact hK.out _ _ rfl B
  refine jm ?_ ?_
  ·rintro wj hJ _ rfl _ rfl _ rfl K hK;simp only[Jo.z]at hK|-;have hne:=HN2.out;go_simp
   repeat' split
   all_goals exact hK.out _ _ (congrArg Value.bool (by first | rfl | (exfalso;simp_all))) (br _ _)
  iterate 2 (refine jm ?_ ?_;rotate_left)
  exact jo
  all_goals (rintro wj hJ;(repeat rintro _ rfl);intro K hK;simp only[Jo.z]at hK|-;have xX1:=(X1.b hJ).cell;go_simp;exact hK.out _ _ rfl (br _ _))
 rintro w8 hJ _ rfl _ rfl _ rfl _ rfl _ rfl _ _ _ rfl _ _ _ rfl _ rfl _ rfl _ rfl _ rfl _ _ _ rfl _ rfl _ rfl _ rfl _ rfl _ _ _ rfl _ rfl _ rfl _ rfl _ rfl -;simp only[Jo.z];replace HB:=Hqb HB hJ;refine jd ?_;go_wp2
 go_ret
 exact⟨rfl,HB.out⟩
theorem jvmay_fy{w:World}{D M E D' M' E' c:Int}{s s':Bool}(hM:(M:Int) < 18446744073709551616)(hM':(M':Int) < 18446744073709551616)(hp:decide (MayQ D s M E)=true)(hq:decide (MayQ D' s' M' E')=true)(hc:cmpI (rk D s M E) (rk D' s' M' E')=c)(hc0:decide (c<=0)=true)(h1:¬(D=2/\s=false/\M=0/\E=0))(h2:¬(D'=2/\s'=true/\M'=0/\E'=0)):Calls Tryz.prog 172 #[VI false D s M E D' s' M' E'] w (PB w true):=by
 delta VI
 have HP:=ie hp;have HQ:=ie hq;have HC:=ie hc;have HC0:=ie hc0;have HN1:=ie h1;have HN2:=ie h2;clear hp hq hc hc0 h1 h2
 go_enter Tryz.func172,Tryz.ntmps172
 go_upto_region 1 with (fail)
 generalize hW1:w.alloc _=w1 at *;obtain⟨X1,HB⟩:=Bo.en1 hW1;clear hW1;have xX1:=X1.cell
 go_wp2_with fail
 refine(yMay HP.out).mono ?_;rintro ee w2 ⟨rfl,B⟩;clear xX1;replace X1:=X1.b B;replace HB:=Hqb HB B;clear B;have xX1:=X1.cell
 go_wp2_with fail
 refine(yMay HQ.out).mono ?_;rintro ee w3 ⟨rfl,B⟩;clear xX1;replace X1:=X1.b B;replace HB:=Hqb HB B;clear B;have xX1:=X1.cell
 go_upto_region 5 with (fail)
 clear xX1;refine jk [0,1,2,3,4,5,6,7,8,9,10,11,12,13,14,15,16,17,18,19,20,21,22,23,24] [some 16,some 17,some 18,some 19,some 20,some 21,some 22,some 23,some 24,some 25,some 26,some 27,some 28,some 29,some 30,some 31,some 32,some 33,some 34,some 35,some 36,some 37,some 38,some 39,some 2] [[],[0],[1],[1,2],[3],[4],[4,5],[4],[4,7],[4,6,8],[4,9],[4,10],[11],[12],[12,13],[12],[12,14,15],[12,16],[17],[18],[18,19],[18],[18,20,21],[18,22],[23]] 25 0 [Jo.qb true,Jo.qb true,Jo.qb true,Jo.qb true,Jo.qb true,Jo.qp w.heap.size 1,Jo.q4 D s M E,Jo.qp w.heap.size 5,Jo.q4 D' s' M' E',Jo.qi c,Jo.qb true,Jo.qb true,Jo.qb true,Jo.qp w.heap.size 1,Jo.q4 D s M E,Jo.q4 2 false 0 0,Jo.qb true,Jo.qb true,Jo.qb true,Jo.qp w.heap.size 5,Jo.q4 D' s' M' E',Jo.q4 2 true 0 0,Jo.qb true,Jo.qb true,Jo.qb true] ?_ ?_
 ·iterate 9 (refine jm ?_ ?_;rotate_left)
  refine jm ?_ ?_
  ·rintro wj hJ _ rfl _ rfl _ rfl K hK;simp only[Jo.z]at hK|-;go_simp;refine(yCmp hM hM' HC.out).mono ?_;rintro ee wk ⟨rfl,B⟩;exact hK.out _ _ rfl B
  refine jm ?_ ?_
  ·rintro wj hJ _ rfl _ rfl K hK;simp only[Jo.z]at hK|-;have hc0:=HC0.out;go_simp
   exact hK.out _ _ (by first | rfl | (show Value.bool _=Value.bool _;rw[hc0]) | simp_all) (br _ _)
  iterate 4 (refine jm ?_ ?_;rotate_left)
  refine jm ?_ ?_
  ·rintro wj hJ _ rfl K hK;simp only[Jo.z]at hK|-;go_simp;refine(yInfE false).mono ?_;rintro ee wk ⟨rfl,B⟩;exact hK.out _ _ rfl B
  refine jm ?_ ?_
  ·rintro wj hJ _ rfl _ rfl _ rfl K hK;simp only[Jo.z]at hK|-;have hne:=HN1.out;go_simp
   repeat' split
   all_goals exact hK.out _ _ (congrArg Value.bool (by first | rfl | (exfalso;simp_all))) (br _ _)
  iterate 4 (refine jm ?_ ?_;rotate_left)
  refine jm ?_ ?_
  ·rintro wj hJ _ rfl K hK;simp only[Jo.z]at hK|-;go_simp;refine(yInfE true).mono ?_;rintro ee wk ⟨rfl,B⟩;exact hK.out _ _ rfl B
  refine jm ?_ ?_
  ·rintro wj hJ _ rfl _ rfl _ rfl K hK;simp only[Jo.z]at hK|-;have hne:=HN2.out;go_simp
   repeat' split
   all_goals exact hK.out _ _ (congrArg Value.bool (by first | rfl | (exfalso;simp_all))) (br _ _)
  iterate 2 (refine jm ?_ ?_;rotate_left)
  exact jo
  all_goals (rintro wj hJ;(repeat rintro _ rfl);intro K hK;simp only[Jo.z]at hK|-;have xX1:=(X1.b hJ).cell;go_simp;exact hK.out _ _ rfl (br _ _))
 rintro w8 hJ _ rfl _ rfl _ rfl _ rfl _ rfl _ _ _ rfl _ _ _ rfl _ rfl _ rfl _ rfl _ rfl _ _ _ rfl _ rfl _ rfl _ rfl _ rfl _ _ _ rfl _ rfl _ rfl _ rfl _ rfl -;simp only[Jo.z];replace HB:=Hqb HB hJ;refine jd ?_;go_wp2
 go_ret
 exact⟨rfl,HB.out⟩
theorem rk_top{D:Int}{s:Bool}{M E:Int}(hM:LQ M)(h:MayQ D s M E)(b:Bool):rk D s M E=sgi b TP↔(D=2/\s=b/\M=0/\E=0):=by
 constructor
 ·intro e
  have q:=rk_fq hM h;rw[e]at q;exact q.uniq (fq_inf2 b)
 ·rintro ⟨rfl,rfl,rfl,rfl⟩;exact(fq_inf2 s).rk
theorem jvMay{w:World}{e:Bool}{D M E D' M' E':Int}{s s':Bool}{r:Bool}(hM:LQ M)(hM':LQ M')(hr:mayI e D s M E D' s' M' E'=r):Calls Tryz.prog 172 #[VI e D s M E D' s' M' E'] w (PB w r):=by
 delta VI
 cases e
 ·have e0:decide (rkI false D s M E D' s' M' E'≠none)=r:=by rw[<-hr];exact(if_neg ff).symm
  rw[rkI_f]at e0
  by_cases hp:MayQ D s M E
  ·by_cases hq:MayQ D' s' M' E'
   ·rw[if_pos ⟨hp,hq⟩]at e0;have b1:=(rk_fq hM hp).bd;have b2:=(rk_fq hM' hq).bd;have t1:=rk_top hM hp false;have t2:=rk_top hM' hq true
    have tf:sgi false TP=19342822337206103650074625:=rfl
    have tt:sgi true TP= -19342822337206103650074625:=rfl
    rw[tf]at t1;rw[tt]at t2;have hpd:=dt hp;have hqd:=dt hq
    by_cases hc:rk D s M E<=rk D' s' M' E'
    ·have hc0:decide (cmpI (rk D s M E) (rk D' s' M' E')<=0)=true:=dt (by rcases cmpI_tri (rk D s M E) (rk D' s' M' E')with ⟨a,b⟩ | ⟨a,b⟩ | ⟨a,b⟩ <;> rw[b] <;> omega)
     by_cases h1:D=2/\s=false/\M=0/\E=0
     ·have k1:=t1.2 h1;rw[mkI_none (by omega)]at e0
      obtain rfl:false=r:=e0
      obtain⟨rfl,rfl,rfl,rfl⟩:=h1;exact jvmay_ft hM hM' hqd rfl hc0
     ·have k1:rk D s M E≠19342822337206103650074625:=fun c=>h1 (t1.1 c)
      by_cases h2:D'=2/\s'=true/\M'=0/\E'=0
      ·have k2:=t2.2 h2;rw[mkI_none (by omega)]at e0
       obtain rfl:false=r:=e0
       obtain⟨rfl,rfl,rfl,rfl⟩:=h2;exact jvmay_fb hM hM' hpd rfl hc0 h1
      ·have k2:rk D' s' M' E'≠ -19342822337206103650074625:=fun c=>h2 (t2.1 c)
       rw[mkI_some hc (by omega) (by omega)]at e0
       obtain rfl:true=r:=e0
       exact jvmay_fy hM hM' hpd hqd rfl hc0 h1 h2
    ·rw[mkI_none (fun c=>hc c.1)]at e0
     obtain rfl:false=r:=e0
     exact jvmay_fc hM hM' hpd hqd rfl (df (by rcases cmpI_tri (rk D s M E) (rk D' s' M' E')with ⟨a,b⟩ | ⟨a,b⟩ | ⟨a,b⟩ <;> rw[b] <;> omega))
   ·rw[if_neg (fun c=>hq c.2)]at e0
    obtain rfl:false=r:=e0
    exact jvmay_fq hM hM' (dt hp) (df hq)
  ·rw[if_neg (fun c=>hp c.1)]at e0
   obtain rfl:false=r:=e0
   exact jvmay_fp hM hM' (df hp) rfl
 ·exact jvmay_t hr
theorem jvFair{w:World}{e:Bool}{D M E D' M' E':Int}{s s':Bool}{x:Sp}(hM:LQ M)(hM':LQ M')(hr:rkI e D s M E D' s' M' E'=x):Calls Tryz.prog 101 #[VI e D s M E D' s' M' E'] w (PV w x):=by
 delta VI
 cases hm:mayI e D s M E D' s' M' E'
 ·obtain rfl:none=x:=(mayI_no hm).symm.trans hr
  have HM:=ie hm;clear hm hr
  go_enter Tryz.func101,Tryz.ntmps101
  go_upto_region 1 with (fail)
  generalize hW1:(w.alloc _).alloc _=w1 at *;obtain⟨X1,XR,HB⟩:=Bo.en2 hW1;clear hW1;have xX1:=X1.cell
  go_wp2_with fail
  refine(jvMay hM hM' HM.out).mono ?_;rintro ee w2 ⟨rfl,B⟩;clear xX1;replace X1:=X1.b B;replace XR:=XR.b B;replace HB:=Hqb HB B;clear B;clear HM hM hM'
  go_wp2_with fail
  refine(jvNoneE).mono ?_;rintro ee w3 ⟨rfl,B⟩;replace X1:=X1.b B;replace XR:=XR.b B;replace HB:=Hqb HB B;clear B;have xXR:=XR.cell;have zXR0:=XR.frozen;go_wp2;clear xXR zXR0;have SX:=StN.t9 XR true 0 false 0 0 0 false 0 0
  exact bq (by simp[results,Tryz.results101,go_sem,SX.box.cell]) rfl ⟨_,_,_,_,_,_,_,_,_,rfl,Ci.none,(SX.below HB.out (by omega))⟩
 ·have hv:=mayI_ci hM hM' hm;rw[hr]at hv;have HM:=ie hm;clear hm hr
  go_enter Tryz.func101,Tryz.ntmps101
  go_upto_region 1 with (fail)
  generalize hW1:(w.alloc _).alloc _=w1 at *;obtain⟨X1,XR,HB⟩:=Bo.en2 hW1;clear hW1;have xX1:=X1.cell
  go_wp2_with fail
  refine(jvMay hM hM' HM.out).mono ?_;rintro ee w2 ⟨rfl,B⟩;clear xX1;replace X1:=X1.b B;replace XR:=XR.b B;replace HB:=Hqb HB B;clear B;clear HM hM hM';have xXR:=XR.cell;have zXR0:=XR.frozen;have xX1:=X1.cell;go_wp2
  clear xXR zXR0 xX1;have SX:=StN.t9 XR e D s M E D' s' M' E';exact bq (by simp[results,Tryz.results101,go_sem,SX.box.cell]) rfl ⟨_,_,_,_,_,_,_,_,_,rfl,hv,(SX.below HB.out (by omega))⟩
def Jo.Fact.ir (x:Sp):Jo.Fact:=⟨fun v w=>∃e K s M E K' s' M' E',v= .agg #[.bool e,.int .i64 K,.bool s,.int .u64 M,.int .i64 E,.int .i64 K',.bool s',.int .u64 M',.int .i64 E']/\M < 18446744073709551616/\M' < 18446744073709551616/\rkI e K s M E K' s' M' E'=x,fun v w w' h b=>h⟩
theorem rkI_mk{K M E K' M' E':Int}{s s':Bool}{a b:Int}{x:Sp}(q:Fq K s M E a)(q':Fq K' s' M' E' b)(hx:mkI a b=x):rkI false K s M E K' s' M' E'=x:=by
 rw[rkI_f,if_pos ⟨q.1,q'.1⟩,q.rk,q'.rk,hx]
theorem jvMake{w:World}{D D' M M' E E':Int}{s s':Bool}{a b:Int}{x:Sp}(hM:LQ M)(hM':LQ M')(ha:rk D s M E=a)(hb:rk D' s' M' E'=b)(hx:mkI a b=x):Calls Tryz.prog 164 #[VQ D s M E,VQ D' s' M' E'] w (PV w x):=by
 delta VQ
 have HA:=ie ha;have HBB:=ie hb;have HX:=ie hx;clear ha hb hx
 go_enter Tryz.func164,Tryz.ntmps164
 go_upto_region 1 with (fail)
 generalize hW1:((w.alloc _).alloc _).alloc _=w1 at *;obtain⟨X2,X3,XR,HB⟩:=Bo.en3 hW1;clear hW1;refine jk [0,1,2,3,4,5] [some 5,some 6,some 7,some 8,some 9,some 10,none] [[],[0],[],[2],[1,3],[4],[]] 7 1 [Jo.q4 D s M E,Jo.Fact.num a,Jo.q4 D' s' M' E',Jo.Fact.num b,Jo.Fact.ir x,Jo.Fact.iv x,Jo.Fact.any] ?_ ?_
 ·refine jm ?_ ?_;rotate_left
  refine jm ?_ ?_
  ·rintro wj hJ _ rfl K hK;simp only[Jo.z]at hK|-;go_simp;exact Jo.n1 (gFair hM HA.out) hK.out
  refine jm ?_ ?_;rotate_left
  refine jm ?_ ?_
  ·rintro wj hJ _ rfl K hK;simp only[Jo.z]at hK|-;go_simp;exact Jo.n1 (gFair hM' HBB.out) hK.out
  refine jm ?_ ?_
  ·rintro wj hJ _ ⟨K1,s1,M1,E1,rfl,q1⟩ _ ⟨K2,s2,M2,E2,rfl,q2⟩ K hK;simp only[Jo.z]at hK|-;go_simp;exact hK.out _ _ ⟨_,_,_,_,_,_,_,_,_,rfl,q1.top,q2.top,rkI_mk q1 q2 HX.out⟩ (br _ _)
  refine jm ?_ ?_
  ·rintro wj hJ _ ⟨e4,K4,s4,M4,E4,K4b,s4b,M4b,E4b,rfl,m4,m4b,r4⟩ K hK;simp only[Jo.z]at hK|-;go_simp;exact Jo.v1 (jvFair m4 m4b r4) hK.out
  exact jo
  all_goals (rintro wj hJ;(repeat rintro _ rfl);intro K hK;simp only[Jo.z]at hK|-;have xX2:=(X2.b hJ).cell;have xX3:=(X3.b hJ).cell;go_simp;exact hK.out _ _ rfl (br _ _))
 rintro w8 hJ _ rfl _ ⟨K1,s1,M1,E1,rfl,q1⟩ _ rfl _ ⟨K2,s2,M2,E2,rfl,q2⟩ _ ⟨_,_,_,_,_,_,_,_,_,rfl,_⟩ _ ⟨e5,K5,s5,M5,E5,K5b,s5b,M5b,E5b,rfl,v5⟩ -;simp only[Jo.z];replace XR:=XR.b hJ;replace HB:=Hqb HB hJ;have xXR:=XR.cell;have zXR0:=XR.frozen
 refine jn 6 fun K hK=>?_
 go_simp;refine hK.out _ _ ?_;clear hK K xXR zXR0;have SX:=StN.t9 XR e5 K5 s5 M5 E5 K5b s5b M5b E5b;refine jd ?_;go_wp2;exact bq (by simp[results,Tryz.results164,go_sem,SX.box.cell]) rfl ⟨_,_,_,_,_,_,_,_,_,rfl,v5,(SX.below HB.out (by omega))⟩
