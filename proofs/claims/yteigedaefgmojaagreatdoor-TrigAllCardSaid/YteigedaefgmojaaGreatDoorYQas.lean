/-
 Contracts that the proof rests on.
-/
import Derived.Laws.Bits64b
import Derived.Laws.Externs
import Derived.Lib.Mul64
import Derived.Lib.TrailingZeros
import Derived.Test.YteigedaefgmojaaGreatDoorYQar
namespace Go.Proofs.YteigedaefgmojaaGreatDoor
open Go.Proofs.Tryz
open Go.RowKit
set_option linter.unusedVariables false
set_option maxRecDepth 100000
def Ic:List Int:=[0,1,56,2,57,49,28,3,61,58,42,50,38,29,17,4,62,47,59,36,45,43,51,22,53,39,33,30,24,18,12,5,63,55,48,27,60,41,37,16,46,35,44,21,52,32,23,11,54,26,40,15,34,20,31,10,25,14,19,9,13,8,7,6]
def Tb (w:World):Prop:=∀i,i < 64->w.cell? ⟨0,i,none⟩=some (.int .u8 (Ic.getD i 0))
section
variable {w w':World}
theorem Tb.lt (h:Tb w):0 < w.heap.size:=World.block_lt_of_cell? w _ (h 0 (by decide))
theorem Tb.keep (h:Tb w)(hk:w'.heap[0]?=w.heap[0]?):Tb w':=fun i hi=>by
 rw[<-h i hi];simp only[World.cell?,hk]
theorem Tb.below (h:Tb w)(hb:Below w.heap.size w w'):Tb w':=h.keep (hb.block _ h.lt)
abbrev Tb.b:= @Tb.below
instance:Mv (Tb w) w w' (Tb w'):=⟨fun h b=>h.below b⟩
theorem Tb.ne{g:Nat}{cs:Array Value}{T:TypeId}(h:Tb w)(X:Bo w g cs T)(hn:cs.all DQ=true):0≠g:=fun e=>by
 have a:=h 0 (by decide);subst e;rw[X.cell]at a;rw[Array.all_eq_true]at hn;obtain⟨hlt,b⟩:=Array.getElem?_eq_some_iff.1 a
 have:=hn 0 hlt
 rw[b]at this
 cases this
theorem Tb.stn{g:Nat}{old new:Array Value}{T:TypeId}(h:Tb w)(S:ae w w' g old new T)(hn:old.all DQ=true):Tb w':=h.keep (S.2.2.1 _ (h.ne S.1 hn))
theorem Tb.off{g:Nat}{old new:Array Value}{R:TypeId}(h:Tb w)(X:Bo w g old R)(hn:old.all DQ=true)(O:Jo.Off g new R w w'):Tb w':=h.keep (O.block _ h.lt (h.ne X hn))
end
theorem FR:∀k:Nat,k < 64->(2^k*285870213051353865%18446744073709551616/288230376151711744) < 64/\Ic.getD (2^k*285870213051353865%18446744073709551616/288230376151711744) 0=(k:Int):=by decide +kernel
theorem AF (x a:Nat)(hx:x < 18446744073709551616)(hx0:x≠0)(hlow:x &&& (18446744073709551616-x)=a):
  IntKind.u64.wrap (bits BinOp.and IntKind.u64 (x:Int) (IntKind.u64.wrap (-(x:Int)))*285870213051353865) /288230376151711744=((a*285870213051353865%18446744073709551616/288230376151711744:Nat):Int):=by
 have e1:IntKind.u64.wrap (-(x:Int))=((18446744073709551616-x:Nat):Int):=by rw[IntKind.wrap_u64];omega
 rw[e1,bits_and_u64_nat x _ hx (by omega),hlow,IntKind.wrap_u64]
 omega
set_option maxHeartbeats 1000000 in
theorem vE (x k idx:Nat)(w:World)(hx0:((x:Int)==0)=false)
  (key:IntKind.u64.wrap (bits BinOp.and IntKind.u64 (x:Int) (IntKind.u64.wrap (-(x:Int)))*285870213051353865) /288230376151711744=(idx:Int))
  (hi:idx < 64) (hk:k < 64) (hcell:w.cell? ⟨0,idx,none⟩=some (.int .u8 (k:Int))):
  Calls prog 240 #[.int .u64 (x:Int)] w fun e w'=>e= .returned (.int .i64 (k:Int))/\w'=w:=by
 go_enter func240,ntmps240
 go_wp2_with (simp only[key])
 go_ret
 exact⟨rfl,rfl⟩
theorem IP{w:World}{x:Nat}{X r:Int}(hT:Tb w)(h0:x≠0)(hx:x < 18446744073709551616)(hX:(x:Int)=X)(hr:((Lib.ctz 64 x:Nat):Int)=r):Calls prog 240 #[.int .u64 X] w (PI w r):=by
 subst hX;subst hr;obtain⟨a,c⟩:=Lib.lowest_bit 64 x h0 hx;obtain⟨hi,b⟩:=FR _ c;have hcell:=hT _ hi;rw[b]at hcell;refine(vE x _ _ w (by simp;omega) (AF x _ hx h0 a) hi c hcell).mono ?_;rintro e w' ⟨rfl,rfl⟩;exact⟨rfl,Below.refl _ _⟩
theorem rm{x n:Nat}(h0:x≠0)(hx:x < 18446744073709551616):n<=Lib.ctz 64 x↔x%2^n=0:=by
 obtain⟨m,hm,a⟩:=Lib.ctzFrom_spec 64 x (by omega) hx
 have e:Lib.ctz 64 x=Lib.ctzFrom 64 x:=by simp[Lib.ctz,h0]
 rw[e]
 revert hm a
 generalize Lib.ctzFrom 64 x=k
 intro hm a
 constructor
 ·intro h
  rw[hm,show 2^k=2^n*2^(k-n) by rw[<-Nat.pow_add];congr 1;omega,Nat.mul_assoc]
  exact Nat.mul_mod_right _ _
 ·intro h
  rcases Nat.lt_or_ge k n with c | c
  ·exfalso
   obtain⟨q,hq⟩:=Nat.dvd_of_mod_eq_zero h
   rw[hm,show 2^n=2^k*(2*2^(n-k-1)) by rw[<-Nat.pow_succ',<-Nat.pow_add];congr 1;omega,Nat.mul_assoc]at hq
   have:=Nat.eq_of_mul_eq_mul_left (Nat.pow_pos (by decide)) hq
   rw[Nat.mul_assoc]at this
   omega
  ·exact c
def pd:Array Value->Sem Value:=fun args=>do
 let (x,y,b) <-Extern.MathBitsCarry.three "Sub64" args
 pure (Extern.MathBitsCarry.pair ((x+Extern.MathBitsCarry.m64-y-b)%Extern.MathBitsCarry.m64) (if x < y+b then 1 else 0))
theorem nG{P:Program}(x y b:Nat)(hb:b<=1)(w:World):
  (pd #[.int .u64 x,.int .u64 y,.int .u64 b]).run P w=
   .ok (.tuple #[.int .u64 (((x+18446744073709551616-y-b)%18446744073709551616:Nat):Int),.int .u64 ((if x < y+b then 1 else 0:Nat):Int)]) w:=by
 have:b=0\/b=1:=by omega
 rcases this with rfl | rfl <;> rfl
theorem f7{X Y C S D:Int}(w:World)(hX:0<=X)(hY:0<=Y)(hC:0<=C)(hC1:C<=1)(hS:(X+Y+C)%18446744073709551616=S)(hD:(X+Y+C) /18446744073709551616=D):
  (callFunc 215 #[.int .u64 X,.int .u64 Y,.int .u64 C]).run prog w= .ok (.value (.tuple #[.int .u64 S,.int .u64 D])) w:=by
 rw[run_callFunc_extern func215 (by kernel_rfl) (by kernel_rfl) (by kernel_rfl) (e:=add64Entry) (by kernel_rfl),run_add64 X Y C hX hY hC hC1,hS,hD]
 rfl
theorem f9{X Y C S D:Int}(w:World)(hX:0<=X)(hX1:LQ X)(hY:0<=Y)(hY1:LQ Y)(hC:0<=C)(hC1:C<=1)(hS:(X-Y-C)%18446744073709551616=S)(hD:(if X < Y+C then 1 else 0)=D):
  (callFunc 216 #[.int .u64 X,.int .u64 Y,.int .u64 C]).run prog w= .ok (.value (.tuple #[.int .u64 S,.int .u64 D])) w:=by
 obtain⟨x,rfl⟩:=Int.eq_ofNat_of_zero_le hX;obtain⟨y,rfl⟩:=Int.eq_ofNat_of_zero_le hY;obtain⟨c,rfl⟩:=Int.eq_ofNat_of_zero_le hC
 have e1:(((x+18446744073709551616-y-c)%18446744073709551616:Nat):Int)=S:=by omega
 have e2:((if x < y+c then 1 else 0:Nat):Int)=D:=by
  rw[<-hD]
  by_cases q:x < y+c
  ·rw[if_pos q,if_pos (by omega)];rfl
  ·rw[if_neg q,if_neg (by omega)];rfl
 rw[run_callFunc_extern func216 (by kernel_rfl) (by kernel_rfl) (by kernel_rfl) (e:=pd) (by kernel_rfl),nG x y c (by omega),e1,e2]
 rfl
namespace M6
open Go.Proofs.Tryz
end M6
end Go.Proofs.YteigedaefgmojaaGreatDoor
namespace Go.Proofs.YteigedaefgmojaaGreatDoor
open Go.Proofs.Tryz
set_option maxHeartbeats 8000000
open Go.RowKit
set_option linter.unusedVariables false
theorem Tb.s{w w':World}{g:Nat}{old new:Array Value}{T:TypeId}(h:Tb w)(S:ae w w' g old new T)(hn:old.all DQ=true:=by simp[DQ]):Tb w':=h.stn S hn
set_option linter.unusedSimpArgs false
set_option maxRecDepth 100000
def Ih (w:World)(s:Bool)(S:Nat)(F:Int)(e:Ending)(w':World):Prop:=∃T K X,e= .returned (.agg #[.bool s,.int .u64 T,.int .u64 K,.int .i64 X])/\Ra S F T K X/\Below w.heap.size w w'
theorem CL{h l n b:Nat}(hn:n+b=64)(hh:h*2^n < 18446744073709551616)(hl:l < 18446744073709551616):bits BinOp.or IntKind.u64 ((h*2^n:Nat):Int) ((l/2^b:Nat):Int)=((h*2^n+l/2^b:Nat):Int):=by
 have hq:l/2^b < 2^n:=by
  rw[Nat.div_lt_iff_lt_mul (Nat.pow_pos (by decide)),<-Nat.pow_add,hn];exact hl
 have a:l/2^b < 18446744073709551616:=Nat.lt_of_le_of_lt (Nat.div_le_self _ _) hl
 rw[u64_or_nat _ _ hh a,<-Nat.shiftLeft_eq,Nat.shiftLeft_add_eq_or_of_lt hq]
theorem mJ{a:Int}{b:Nat}(h:64-(b:Int)=a)(hb:b<=64):a.toNat=64-b/\(64-a).toNat=b:=by omega
theorem qF{w:World}{s:Bool}{l:Nat}{L e:Int}(hl:l < 18446744073709551616)(hL:(l:Int)=L)(e1: -4000000<=e)(e2:e<=4000000):Calls prog 230 #[.agg #[.bool s,.int .u64 0,.int .u64 L,.int .i64 e]] w (Ih w s l (e-64)):=by
 have o:=ie (Fp (e:=e) hl);have hb:=ai (n:=l) (k:=64) hl;obtain⟨a,u⟩:∃a,64-(ac l:Int)=a:=⟨_,rfl⟩;obtain⟨T,x⟩:∃T,((l*2^(64-ac l):Nat):Int)=T:=⟨_,rfl⟩
 have P:Hid (L*2^a.toNat=T):=ie (by
  rw[<-x,<-hL,(mJ u hb).1]
  push_cast
  rfl)
 rw[x,u]at o;have U:=o.out.1;have Z:=o.out.2.1
 have a0:0<=a:=by omega
 have a1:a<=64:=by omega
 have J:=ie u;have N:=ie hL
 have Q:=ie (show IntKind.u64.wrap T=T from IntWalk.u64_in _ (by omega))
 have O:Hid (bits BinOp.or IntKind.u64 T 0=T):=ie (by
  obtain⟨k,rfl⟩:=Int.eq_ofNat_of_zero_le U
  have:=u64_or_nat k 0 (by omega) (by decide)
  rw[Nat.or_zero]at this;exact this)
 obtain⟨f,hf⟩:∃f,e-64=f:=⟨_,rfl⟩;obtain⟨X,y⟩:∃X,f-a=X:=⟨_,rfl⟩;rw[hf,y]at o;rw[hf]
 have M:=ie (show IntKind.i64.wrap (e-64)=f by rw[hf];exact IntWalk.i64_in _ (by omega))
 have R:=ie (show IntKind.i64.wrap (f-a)=X by rw[y];exact IntWalk.i64_in _ (by omega))
 have v:=ie (show IntKind.i64.wrap (64-a)=64-a from IntWalk.i64_in _ (by omega))
 clear u hL x hf y hb
 go_enter func230,ntmps230
 go_upto_region 1 with fail
 generalize q:(w.alloc _).alloc _=w1 at *;obtain⟨d,i,j⟩:=Bo.en2 q;clear q;have h:=d.cell;have g:=d.frozen
 go_upto_region 3 with fail
 clear h g
 have c:ae w1 (World.setCell w1 ⟨w.heap.size,1,none⟩ (.int .u64 L)) _ _ #[.bool s,.int .u64 L,.int .u64 L,.int .i64 e] _:=ae.at4 d 1 (.int .u64 L)
 replace i:=i.s c;replace j:=aP j c (by omega);replace d:=c.box;clear c;generalize World.setCell w1 ⟨w.heap.size,1,none⟩ (.int .u64 L)=A at *
 have c:ae A (World.setCell A ⟨w.heap.size,2,none⟩ (.int .u64 0)) _ _ #[.bool s,.int .u64 L,.int .u64 0,.int .i64 e] _:=ae.at4 d 2 (.int .u64 0)
 replace i:=i.s c;replace j:=aP j c (by omega);replace d:=c.box;clear c;generalize World.setCell A ⟨w.heap.size,2,none⟩ (.int .u64 0)=C at *;have h:=d.cell;have g:=d.frozen;have hf:=M.out
 go_upto_region 4 with fail
 clear hf;clear h g
 have c:ae C (World.setCell C ⟨w.heap.size,3,none⟩ (.int .i64 f)) _ _ #[.bool s,.int .u64 L,.int .u64 0,.int .i64 f] _:=ae.at4 d 3 (.int .i64 f)
 replace i:=i.s c;replace j:=aP j c (by omega);replace d:=c.box;clear c;generalize World.setCell C ⟨w.heap.size,3,none⟩ (.int .i64 f)=w4 at *;have h:=d.cell
 go_wp2_with fail
 refine(fQ _ hl N.out J.out).mono ?_;rintro V w5 ⟨rfl,B⟩;clear h;refine aE ?_ d i j B;clear d i j B;intro d i j
 go_upto_region 5 with fail
 refine aV [0,1,2,3,4,5,6,7,8,9,10] [19,20,21,22,23,24,25,26,27,28,29,0] [[],[0],[],[1,2],[],[4],[],[6],[5,7],[3,8],[],[]] 12 1 [Jo.qp w.heap.size 1,Jo.Fact.eq (.int .u64 L),Jo.qi a,Jo.Fact.eq (.int .u64 T),Jo.qp w.heap.size 2,Jo.Fact.eq (.int .u64 0),Jo.qi a,Jo.Fact.eq (.int .i64 (64-a)),Jo.Fact.eq (.int .u64 0),Jo.Fact.eq (.int .u64 T),Jo.qp w.heap.size 1,Jo.Fact.any] ?_ ?_
 ·refine jm ?_ ?_;rotate_left
  refine jm ?_ ?_
  ·rintro r p _ rfl K m;have H:=(d.b p).a 1 (.int .u64 L) rfl;go_simp;exact m.out _ _ rfl (br _ _)
  refine jm ?_ ?_;rotate_left
  refine jm ?_ ?_
  ·rintro r p _ rfl _ rfl K m;have hs:=P.out;have Y:=Q.out;go_simp;exact m.out _ _ rfl (br _ _)
  refine jm ?_ ?_;rotate_left
  refine jm ?_ ?_
  ·rintro r p _ rfl K m;have I:=(d.b p).a 2 (.int .u64 0) rfl;go_simp;exact m.out _ _ rfl (br _ _)
  refine jm ?_ ?_;rotate_left
  refine jm ?_ ?_
  ·rintro r p _ rfl K m;have S:=v.out;go_simp;exact m.out _ _ rfl (br _ _)
  refine jm ?_ ?_;rotate_left
  refine jm ?_ ?_
  ·rintro r p _ rfl _ rfl K m;have W:=O.out;go_simp;exact m.out _ _ rfl (br _ _)
  refine jm ?_ ?_;rotate_left
  exact jo
  all_goals (rintro r p;(repeat rintro _ rfl);intro K m;go_simp;exact m.out _ _ rfl (br _ _))
 rintro D p _ _ _ rfl _ rfl _ rfl _ _ _ rfl _ rfl _ rfl _ rfl _ rfl _ rfl -;simp only[Jo.z];replace d:=d.b p;replace i:=i.b p;replace j:=aj j p;have h:=d.cell;have g:=d.frozen
 refine jn 11 fun K m=>?_
 go_simp;refine m.out _ _ ?_;clear m K h g
 have c:ae D (World.setCell D ⟨w.heap.size,1,none⟩ (.int .u64 T)) _ _ #[.bool s,.int .u64 T,.int .u64 0,.int .i64 f] _:=ae.at4 d 1 (.int .u64 T)
 replace i:=i.s c;replace j:=aP j c (by omega);replace d:=c.box;clear c;generalize World.setCell D ⟨w.heap.size,1,none⟩ (.int .u64 T)=E at *;refine jd ?_;have h:=d.cell;have g:=d.frozen
 go_upto_region 7 with fail
 clear h g
 have c:ae E (World.setCell E ⟨w.heap.size,2,none⟩ (.int .u64 0)) _ _ #[.bool s,.int .u64 T,.int .u64 0,.int .i64 f] _:=ae.at4 d 2 (.int .u64 0)
 replace i:=i.s c;replace j:=aP j c (by omega);replace d:=c.box;clear c;generalize World.setCell E ⟨w.heap.size,2,none⟩ (.int .u64 0)=F at *;have h:=d.cell;have g:=d.frozen;have hx:=R.out
 go_upto_region 8 with fail
 clear hx;clear h g
 have c:ae F (World.setCell F ⟨w.heap.size,3,none⟩ (.int .i64 X)) _ _ #[.bool s,.int .u64 T,.int .u64 0,.int .i64 X] _:=ae.at4 d 3 (.int .i64 X)
 replace i:=i.s c;replace j:=aP j c (by omega);replace d:=c.box;clear c;generalize World.setCell F ⟨w.heap.size,3,none⟩ (.int .i64 X)=w9 at *;have G:=i.cell;have t:=i.frozen;have h:=d.cell;go_wp2;clear G t h;have c:=ae.mk4 i (.bool s) (.int .u64 T) (.int .u64 0) (.int .i64 X)
 exact bq (by simp[results,results230,go_sem,c.box.cell]) rfl ⟨_,_,_,rfl,o.out,(c.below j.out (by omega))⟩
theorem oW{w:World}{s:Bool}{h l:Nat}{H L e:Int}(h0:h≠0)(hh:h < 18446744073709551616)(hl:l < 18446744073709551616)(hH:(h:Int)=H)(hL:(l:Int)=L)(e1: -4000000<=e)(e2:e<=4000000):Calls prog 230 #[.agg #[.bool s,.int .u64 H,.int .u64 L,.int .i64 e]] w (Ih w s (h*18446744073709551616+l) (e-64)):=by
 have q:=ie (CY (e:=e) h0 hh hl);have hb:=ai (n:=h) (k:=64) hh;obtain⟨a,v⟩:∃a,64-(ac h:Int)=a:=⟨_,rfl⟩;obtain⟨M,V⟩:=mJ v hb;obtain⟨R,F⟩:∃R,((h*2^(64-ac h)+l/2^ac h:Nat):Int)=R:=⟨_,rfl⟩;obtain⟨T,G⟩:∃T,((h*2^(64-ac h):Nat):Int)=T:=⟨_,rfl⟩;obtain⟨Q,E⟩:∃Q,((l/2^ac h:Nat):Int)=Q:=⟨_,rfl⟩
 obtain⟨P,D⟩:∃P,((l*2^(64-ac h):Nat):Int)=P:=⟨_,rfl⟩;obtain⟨C,A⟩:∃C,((l*2^(64-ac h)%18446744073709551616:Nat):Int)=C:=⟨_,rfl⟩
 have p:h*2^(64-ac h) < 18446744073709551616:=by
  have q1:=ew hb;have q2:=eW h;rw[q1]at q2
  omega
 have HS:Hid (H*2^a.toNat=T):=ie (by
  rw[<-G,<-hH,M]
  push_cast
  rfl)
 have HP:Hid (L*2^a.toNat=P):=ie (by
  rw[<-D,<-hL,M]
  push_cast
  rfl)
 have x:Hid (IntKind.u64.wrap P=C):=ie (by
  rw[<-D,<-A,IntKind.wrap_u64]
  omega)
 have HQ:Hid (L/2^(64-a).toNat=Q):=ie (by
  rw[<-E,<-hL,V]
  push_cast
  rfl)
 have HO:Hid (bits BinOp.or IntKind.u64 T Q=R):=ie (by
  rw[<-G,<-E,<-F];exact CL (by omega) p hl)
 rw[F,A,v]at q
 have HW:=ie (show IntKind.u64.wrap T=T from IntWalk.u64_in _ (by omega))
 have a0:0<=a:=by omega
 have a1:a<=64:=by omega
 have bA:(H==0)=false:=by
  have:H≠0:=by omega
  simpa using this
 have Z:=ie v;have HL:=ie hL;have HH:=ie hH;obtain⟨X,I⟩:∃X,e-a=X:=⟨_,rfl⟩;rw[I]at q
 have HX:=ie (show IntKind.i64.wrap (e-a)=X by rw[I];exact IntWalk.i64_in _ (by omega))
 have y:=ie (show IntKind.i64.wrap (64-a)=64-a from IntWalk.i64_in _ (by omega))
 clear v hL hH G F E D A I hb M V p
 go_enter func230,ntmps230
 go_upto_region 1 with fail
 generalize t:(w.alloc _).alloc _=w1 at *;obtain⟨c,j,m⟩:=Bo.en2 t;clear t;have d:=c.cell
 go_wp2_with fail
 refine(fQ _ hh HH.out Z.out).mono ?_;rintro ee w5 ⟨rfl,B⟩;clear d;refine aE ?_ c j m B;clear c j m B;intro c j m
 go_upto_region 5 with fail
 refine aV [0,1,2,3,4,5,6,7,8,9,10] [19,20,21,22,23,24,25,26,27,28,29,0] [[],[0],[],[1,2],[],[4],[],[6],[5,7],[3,8],[],[]] 12 1 [Jo.qp w.heap.size 1,Jo.Fact.eq (.int .u64 H),Jo.qi a,Jo.Fact.eq (.int .u64 T),Jo.qp w.heap.size 2,Jo.Fact.eq (.int .u64 L),Jo.qi a,Jo.Fact.eq (.int .i64 (64-a)),Jo.Fact.eq (.int .u64 Q),Jo.Fact.eq (.int .u64 R),Jo.qp w.heap.size 1,Jo.Fact.any] ?_ ?_
 ·refine jm ?_ ?_;rotate_left
  refine jm ?_ ?_
  ·rintro r o _ rfl K i;have W:=(c.b o).a 1 (.int .u64 H) rfl;go_simp;exact i.out _ _ rfl (br _ _)
  refine jm ?_ ?_;rotate_left
  refine jm ?_ ?_
  ·rintro r o _ rfl _ rfl K i;have hs:=HS.out;have hw:=HW.out;go_simp;exact i.out _ _ rfl (br _ _)
  refine jm ?_ ?_;rotate_left
  refine jm ?_ ?_
  ·rintro r o _ rfl K i;have Y:=(c.b o).a 2 (.int .u64 L) rfl;go_simp;exact i.out _ _ rfl (br _ _)
  refine jm ?_ ?_;rotate_left
  refine jm ?_ ?_
  ·rintro r o _ rfl K i;have bB:=y.out;go_simp;exact i.out _ _ rfl (br _ _)
  refine jm ?_ ?_
  ·rintro r o _ rfl _ rfl K i;have hq:=HQ.out;go_simp;exact i.out _ _ rfl (br _ _)
  refine jm ?_ ?_
  ·rintro r o _ rfl _ rfl K i;have ho:=HO.out;go_simp;exact i.out _ _ rfl (br _ _)
  refine jm ?_ ?_;rotate_left
  exact jo
  all_goals (rintro r o;(repeat rintro _ rfl);intro K i;go_simp;exact i.out _ _ rfl (br _ _))
 rintro N o _ _ _ rfl _ rfl _ rfl _ _ _ rfl _ rfl _ rfl _ rfl _ rfl _ rfl -;simp only[Jo.z];replace c:=c.b o;replace j:=j.b o;replace m:=aj m o;have d:=c.cell;have g:=c.frozen
 refine jn 11 fun K i=>?_
 go_simp;refine i.out _ _ ?_;clear i K d g
 have f:ae N (World.setCell N ⟨w.heap.size,1,none⟩ (.int .u64 R)) _ _ #[.bool s,.int .u64 R,.int .u64 L,.int .i64 e] _:=ae.at4 c 1 (.int .u64 R)
 replace j:=j.s f;replace m:=aP m f (by omega);replace c:=f.box;clear f;generalize World.setCell N ⟨w.heap.size,1,none⟩ (.int .u64 R)=O at *;refine jd ?_;have d:=c.cell;have g:=c.frozen;have hp:=HP.out;have J:=x.out
 go_upto_region 7 with fail
 clear hp J;clear d g
 have f:ae O (World.setCell O ⟨w.heap.size,2,none⟩ (.int .u64 C)) _ _ #[.bool s,.int .u64 R,.int .u64 C,.int .i64 e] _:=ae.at4 c 2 (.int .u64 C)
 replace j:=j.s f;replace m:=aP m f (by omega);replace c:=f.box;clear f;generalize World.setCell O ⟨w.heap.size,2,none⟩ (.int .u64 C)=S at *;have d:=c.cell;have g:=c.frozen;have hx:=HX.out
 go_upto_region 8 with fail
 clear hx;clear d g
 have f:ae S (World.setCell S ⟨w.heap.size,3,none⟩ (.int .i64 X)) _ _ #[.bool s,.int .u64 R,.int .u64 C,.int .i64 X] _:=ae.at4 c 3 (.int .i64 X)
 replace j:=j.s f;replace m:=aP m f (by omega);replace c:=f.box;clear f;generalize World.setCell S ⟨w.heap.size,3,none⟩ (.int .i64 X)=w9 at *;have U:=j.cell;have u:=j.frozen;have d:=c.cell;go_wp2;clear U u d;have f:=ae.mk4 j (.bool s) (.int .u64 R) (.int .u64 C) (.int .i64 X)
 exact bq (by simp[results,results230,go_sem,f.box.cell]) rfl ⟨_,_,_,rfl,q.out,(f.below m.out (by omega))⟩
theorem Bk{w:World}{s:Bool}{h l:Nat}{H L e:Int}(hh:h < 18446744073709551616)(hl:l < 18446744073709551616)(hH:(h:Int)=H)(hL:(l:Int)=L)(e1: -4000000<=e)(e2:e<=4000000):Calls prog 230 #[.agg #[.bool s,.int .u64 H,.int .u64 L,.int .i64 e]] w (Ih w s (h*18446744073709551616+l) (e-64)):=by
 by_cases h0:h=0
 ·subst h0;subst hH;rw[Nat.zero_mul,Nat.zero_add];exact qF hl hL e1 e2
 ·exact oW h0 hh hl hH hL e1 e2
theorem sP{S:Nat}{F T C X r:Int}{s t:Bool}(ra:Ra S F T C X)(hr:an s (lo S F)=r)(ht:sW S F=t):
  (T=0/\0=r/\true=t)\/((T==0)=false/\1048576 < X/\false=t/\nx s (an s TP)=r)\/((T==0)=false/\¬1048576 < X/\X < -1048576/\false=t/\0=r)\/((T==0)=false/\ -1048576<=X/\X<=1048576/\Fq 1 s T X r/\(C==0)=t):=by
 obtain⟨i,d,g,h,c,hx⟩:=ra
 unfold lo at hr
 unfold sW at ht
 by_cases a:S=0
 ·rw[if_pos a]at hr
  have e0:(S==0)=true:=by simpa using a
  rw[e0,Bool.true_or]at ht;refine .inl ⟨?_,?_,ht⟩
  ·rw[c,a]
   rfl
  ·rw[<-hr]
   cases s <;> rfl
 ·right
  rw[if_neg a]at hr
  have e0:(S==0)=false:=by simpa using a
  rw[e0,Bool.false_or]at ht;obtain⟨e,f⟩:=hx a;have g1:=gD a
  have b:(T==0)=false:=by
   have:T≠0:=by omega
   simpa using this
  rw[<-e]at hr ht
  by_cases c1:1048576 < X
  ·rw[if_pos c1]at hr
   rw[show decide (X<=1048576)=false from df (by omega),Bool.false_and]at ht
   refine .inl ⟨b,c1,ht,?_⟩;rw[<-hr]
   have:=dC
   unfold nx
   cases s
   ·rw[bl,bl,if_neg (by decide)]
    omega
   ·rw[bn,bn,if_pos rfl]
    omega
  ·right
   rw[if_neg c1]at hr
   rw[show decide (X<=1048576)=true from dt (by omega),Bool.true_and]at ht
   by_cases c2:X < -1048576
   ·rw[if_pos c2]at hr
    rw[show decide (-1048576<=X)=false from df (by omega),Bool.false_and]at ht
    refine .inl ⟨b,c1,c2,ht,?_⟩;rw[<-hr]
    cases s <;> rfl
   ·rw[if_neg c2]at hr
    rw[show decide (-1048576<=X)=true from dt (by omega),Bool.true_and]at ht
    refine .inr ⟨b,by omega,by omega,?_,?_⟩
    ·rw[<-c]at hr;exact Fq.fin (by omega) d (by omega) (by omega) hr
    ·rw[<-ht,Bool.eq_iff_iff,decide_eq_true_iff,<-f]
     simp
theorem Ij{w:World}{s t:Bool}{h l:Nat}{H L e r:Int}(hh:h < 18446744073709551616)(hl:l < 18446744073709551616)(hH:(h:Int)=H)(hL:(l:Int)=L)(e1: -4000000<=e)(e2:e<=4000000)(hr:an s (lo (h*18446744073709551616+l) (e-64))=r)(ht:sW (h*18446744073709551616+l) (e-64)=t):
  Calls prog 197 #[.agg #[.bool s,.int .u64 H,.int .u64 L,.int .i64 e]] w (Ga w r t):=by
 have S:=ie hr;have U:=ie ht;clear hr ht
 go_enter func197,ntmps197
 go_upto_region 1 with fail
 generalize y:(w.alloc _).alloc _=w1 at *;obtain⟨f,j,o⟩:=Bo.en2 y;clear y;have d:=f.cell
 go_wp2_with fail
 refine(Bk hh hl hH hL e1 e2).mono ?_;rintro ee w2 ⟨T,C,X,rfl,W,B⟩;clear d;refine aE ?_ f j o B;clear f j o B;intro f j o;have d:=f.cell;have D:=f.frozen
 go_upto_region 2 with fail
 clear d D;generalize x:(((w2.setCell _ _).setCell _ _).setCell _ _).setCell _ _=w3 at *;have k:=ae.of4 f x;replace j:=j.s k;replace o:=aP o k (by omega);replace f:=k.box;clear k x;have J:=sP W S.out U.out;clear W S U hh hl hH hL e1 e2
 rcases J with⟨g1,g2,g3⟩ | ⟨g1,g2,g3,u⟩ | ⟨g1,g2,g3,u,g5⟩ | ⟨g1,g2,g3,u,g5⟩
 ·subst g1;subst g2;subst g3;have p:=j.cell;have m:=j.frozen;have d:=f.cell;go_wp2;clear p m d;have k:=ae.t4 j 0 false 0 0;exact bq (v:= .tuple #[.agg #[.int .i64 0,.bool false,.int .u64 0,.int .i64 0],.bool true]) (by simp[results,results197,go_sem,k.box.cell]) rfl ⟨_,_,_,_,rfl,Fq.nought,(k.below o.out (by omega))⟩
 ·subst g3;obtain⟨i,hi⟩:∃i,an s TP=i:=⟨_,rfl⟩;rw[hi]at u;have Y:=ie hi;have Z:=ie u;clear hi u;have d:=f.cell
  go_upto_region 5 with fail
  clear d;refine aV [0,1,2,3,4,5] [16,17,18,19,20,21,0,4] [[],[0],[1],[],[3],[2,4],[],[]] 8 2 [Jo.qp w.heap.size 0,Jo.qb s,Jo.Fact.num i,Jo.qp w.heap.size 0,Jo.qb s,Jo.Fact.num r,Jo.Fact.any,Jo.Fact.any] ?_ ?_
  ·refine jm ?_ ?_;rotate_left
   refine jm ?_ ?_
   ·rintro n g _ rfl K c;have A:=(f.b g).a 0 (.bool s) rfl;go_simp;exact c.out _ _ rfl (br _ _)
   refine jm ?_ ?_
   ·rintro n g _ rfl K c;go_simp;exact Jo.n1 (oO Y.out) c.out
   refine jm ?_ ?_;rotate_left
   refine jm ?_ ?_
   ·rintro n g _ rfl K c;have A:=(f.b g).a 0 (.bool s) rfl;go_simp;exact c.out _ _ rfl (br _ _)
   refine jm ?_ ?_
   ·rintro n g _ ⟨K4,s4,M4,E4,rfl,V⟩ _ rfl K c;go_simp;refine(rN (r:=r) V.top (by rw[V.rk];exact Z.out)).mono ?_;rintro ee wk ⟨F,s5,G,E5,rfl,N,B⟩;exact c.out _ _ ⟨F,s5,G,E5,rfl,N⟩ B
   exact jo
   all_goals (rintro n g;(repeat rintro _ rfl);intro K c;go_simp;exact c.out _ _ rfl (br _ _))
  rintro R g _ _ _ rfl _ ⟨K4,s4,M4,E4,rfl,_⟩ _ _ _ rfl _ ⟨F,s5,G,E5,rfl,N⟩ -;simp only[Jo.z];replace f:=f.b g;replace j:=j.b g;replace o:=aj o g;have p:=j.cell;have m:=j.frozen
  refine jn 6 fun K c=>?_
  go_simp;refine c.out _ _ ?_;clear c K p m;generalize x:(((R.setCell _ _).setCell _ _).setCell _ _).setCell _ _=w5 at *;have k:=ae.of4 j x;replace f:=f.s k;replace o:=aP o k (by omega);replace j:=k.box;clear k x
  refine jn 7 fun K c=>?_
  go_simp;refine c.out _ _ ?_;clear c K;refine jd ?_;go_wp2;exact bq (v:= .tuple #[.agg #[.int .i64 F,.bool s5,.int .u64 G,.int .i64 E5],.bool false]) (by simp[results,results197,go_sem,j.cell]) rfl ⟨_,_,_,_,rfl,N,o.out⟩
 ·subst u;subst g5;have p:=j.cell;have m:=j.frozen;have d:=f.cell;go_wp2;clear p m d;have k:=ae.t4 j 0 false 0 0;exact bq (v:= .tuple #[.agg #[.int .i64 0,.bool false,.int .u64 0,.int .i64 0],.bool false]) (by simp[results,results197,go_sem,k.box.cell]) rfl ⟨_,_,_,_,rfl,Fq.nought,(k.below o.out (by omega))⟩
 ·have E:=ie g5;clear g5;have d:=f.cell
  go_upto_region 8 with fail
  clear d;refine Jo.rl (w.heap.size+1) #[.int .i64 1,.bool s,.int .u64 T,.int .i64 X] 24 [0,1,2,3,4,5,6,7,8,9,10] [some 26,some 27,some 28,some 29,some 30,some 31,some 32,some 33,some 34,some 35,none,some 3] [[],[0],[],[2],[],[4],[1,3,5],[],[7],[8],[6],[]] 12 1 [Jo.kp w.heap.size 0,Jo.LFact.eq (.bool s),Jo.kp w.heap.size 1,Jo.LFact.eq (.int .u64 T),Jo.kp w.heap.size 3,Jo.LFact.eq (.int .i64 X),Jo.LFact.eq (.agg #[.int .i64 1,.bool s,.int .u64 T,.int .i64 X]),Jo.kp w.heap.size 2,Jo.LFact.eq (.int .u64 C),Jo.LFact.eq (.bool t),Jo.LFact.done,Jo.LFact.any] (by kernel_rfl) (by kernel_rfl) (by decide) rfl ?_ ?_
  ·refine Jo.lm rfl ?_ ?_
   ·rintro n g K c;go_simp;exact c.out _ _ rfl (Jo.Off.refl _ _ _ _)
   refine Jo.lm rfl ?_ ?_
   ·rintro n g _ rfl K c;simp only[Jo.z]at c|-;replace f:=f.off (by omega) g;have d:=f.cell;go_simp;exact c.out _ _ rfl (Jo.Off.refl _ _ _ _)
   refine Jo.lm rfl ?_ ?_
   ·rintro n g K c;go_simp;exact c.out _ _ rfl (Jo.Off.refl _ _ _ _)
   refine Jo.lm rfl ?_ ?_
   ·rintro n g _ rfl K c;simp only[Jo.z]at c|-;replace f:=f.off (by omega) g;have d:=f.cell;go_simp;exact c.out _ _ rfl (Jo.Off.refl _ _ _ _)
   refine Jo.lm rfl ?_ ?_
   ·rintro n g K c;go_simp;exact c.out _ _ rfl (Jo.Off.refl _ _ _ _)
   refine Jo.lm rfl ?_ ?_
   ·rintro n g _ rfl K c;simp only[Jo.z]at c|-;replace f:=f.off (by omega) g;have d:=f.cell;go_simp;exact c.out _ _ rfl (Jo.Off.refl _ _ _ _)
   refine Jo.lm rfl ?_ ?_
   ·rintro n g _ rfl _ rfl _ rfl K c;go_simp;exact c.out _ _ rfl (Jo.Off.refl _ _ _ _)
   refine Jo.lm rfl ?_ ?_
   ·rintro n g K c;go_simp;exact c.out _ _ rfl (Jo.Off.refl _ _ _ _)
   refine Jo.lm rfl ?_ ?_
   ·rintro n g _ rfl K c;simp only[Jo.z]at c|-;replace f:=f.off (by omega) g;have d:=f.cell;go_simp;exact c.out _ _ rfl (Jo.Off.refl _ _ _ _)
   refine Jo.lm rfl ?_ ?_
   ·rintro n g _ rfl K c;have M:=E.out;go_simp
    exact c.out _ _ (by first | rfl | (show Value.bool _=Value.bool _;rw[M])) (Jo.Off.refl _ _ _ _)
   refine Jo.lm rfl ?_ ?_
   ·rintro n g _ rfl K c;simp only[Jo.z]at c|-
    obtain⟨O,P,v2,Q,q⟩:∃O P v2 Q,Bo n (w.heap.size+1) #[O,P,v2,Q] 24:=by
     rcases g.own with e | e
     ·exact⟨_,_,_,_,j.keep e⟩
     ·exact⟨_,_,_,_,e⟩
    have y0:=q.a 0 (O) rfl;have u0:=q.frozen 0;have y1:=q.a 1 (P) rfl;have u1:=q.frozen 1;have y2:=q.a 2 (v2) rfl;have u2:=q.frozen 2;have y3:=q.a 3 (Q) rfl;have u3:=q.frozen 3;go_simp;have k:=ae.t4 q 1 s T X;exact c.out undef _ k.box (Jo.Off.of_stn k)
   exact jo
  rintro R g _ _ _ rfl _ _ _ rfl _ _ _ rfl _ rfl _ _ _ rfl _ rfl bA I -;simp only[Jo.z];replace o:=ie (g.below o.out (by omega) j.lt)
  replace j:Bo R (w.heap.size+1) #[.int .i64 1,.bool s,.int .u64 T,.int .i64 X] 24:=I
  refine jn 11 fun K c=>?_
  go_simp;refine c.out _ _ ?_;clear c K;refine jd ?_;go_wp2;exact bq (v:= .tuple #[.agg #[.int .i64 1,.bool s,.int .u64 T,.int .i64 X],.bool t]) (by simp[results,results197,go_sem,j.cell]) rfl ⟨_,_,_,_,rfl,u,o.out⟩
def Wd (s:Bool)(H L e:Int)(f:Bool->Int):Prop:=∃h l:Nat,h < 18446744073709551616/\l < 18446744073709551616/\(h:Int)=H/\(l:Int)=L/\ -2900000<=e/\e<=2900000/\∀up,dM up (mk (an s ((h*18446744073709551616+l:Nat):Int)) (e-64)).1 (mk (an s ((h*18446744073709551616+l:Nat):Int)) (e-64)).2=f up
def Ge (w:World)(f:Bool->Int)(e:Ending)(w':World):Prop:=∃s H L x,e= .returned (.agg #[.bool s,.int .u64 H,.int .u64 L,.int .i64 x])/\Wd s H L x f/\Below w.heap.size w w'
theorem D9{w:World}{s up:Bool}{H L e r:Int}{fu:Bool->Int}(hw:Wd s H L e fu)(hr:fu up=r):
  Calls prog 146 #[.agg #[.bool s,.int .u64 H,.int .u64 L,.int .i64 e],.bool up] w (PN w r):=by
 obtain⟨h,l,hh,hl,V,W,e1,e2,hf⟩:=hw
 have e3: -4000000<=e:=by omega
 have T:e<=4000000:=by omega
 obtain⟨y,z,A⟩:=AT (neg:=s) (S:=h*18446744073709551616+l) (F:=e-64) (by omega) (by omega) (by omega) rfl rfl
 have E:sW (h*18446744073709551616+l) (e-64)=true->an s (lo (h*18446744073709551616+l) (e-64))=r:=fun c=>by
  rw[<-y c up,hf up,hr]
 have G:s=up->an s (lo (h*18446744073709551616+l) (e-64))=r:=fun c=>by
  rw[<-z,hf s,c,hr]
 have I:sW (h*18446744073709551616+l) (e-64)=false->(!s)=up->nx up (an s (lo (h*18446744073709551616+l) (e-64)))=r:=fun c d=>by
  rw[<-d,<-A c,hf (!s),d,hr]
 obtain⟨x,hx⟩:∃x,an s (lo (h*18446744073709551616+l) (e-64))=x:=⟨_,rfl⟩;obtain⟨t,ht⟩:∃t,sW (h*18446744073709551616+l) (e-64)=t:=⟨_,rfl⟩;rw[hx,ht]at E I;rw[hx]at G;have P:=ie hx;have O:=ie ht;have m:=ie E;have n:=ie G;have o:=ie I;clear hx ht E G I y z A hf hr e1 e2
 go_enter func146,ntmps146
 go_upto_region 1 with fail
 generalize u:(w.alloc _).alloc _=w1 at *;obtain⟨g,a,j⟩:=Bo.en2 u;clear u;have b:=g.cell
 go_wp2_with fail
 refine(Ij hh hl V W e3 T P.out O.out).mono ?_;rintro U Y ⟨K2,s2,M2,E2,rfl,C,B⟩;clear b;refine aE ?_ g a j B;clear g a j B;intro g a j;clear P O
 go_upto_region 2 with fail
 have J:=g.lt;have M:=a.lt;generalize v:Y.alloc _=Z at *;obtain⟨q,N⟩:=Bo.nw v;clear v;refine aE ?_ g a j N;clear g a j N;intro g a j
 by_cases ht:t=true
 ·subst ht
  obtain rfl:x=r:=m.out rfl
  clear m n o;have k:=a.cell;have f:=a.frozen;have b:=g.cell;have i:=q.cell;go_wp2;clear k f b i;have p:=ae.t4 a K2 s2 M2 E2;exact bq (by simp[results,results146,go_sem,p.box.cell]) rfl ⟨_,_,_,_,rfl,C,(p.below j.out (by omega))⟩
 ·have ht:t=false:=by simpa using ht
  subst ht
  by_cases hs:s=up
  ·obtain rfl:x=r:=n.out hs
   clear m n o;subst hs;have k:=a.cell;have f:=a.frozen;have b:=g.cell;have i:=q.cell;go_wp2;clear k f b i;have p:=ae.t4 a K2 s2 M2 E2;exact bq (by simp[results,results146,go_sem,p.box.cell]) rfl ⟨_,_,_,_,rfl,C,(p.below j.out (by omega))⟩
  ·obtain rfl:(!s)=up:=by cases s <;> cases up <;> first | rfl | exact absurd rfl hs
   clear hs
   have e2:(s==!s)=false:=by cases s <;> rfl
   have D:Hid (nx (!s) (rk K2 s2 M2 E2)=r):=ie (by rw[C.rk];exact o.out rfl rfl)
   clear m n o;have b:=g.cell;have i:=q.cell
   go_wp2_with fail
   refine(rN C.top D.out).mono ?_;rintro U w7 ⟨Q,s3,R,E3,rfl,X,B⟩;clear b i;refine dk ?_ g a q j B;clear g a q j B;intro g a q j;have k:=a.cell;have f:=a.frozen;have b:=g.cell;have i:=q.cell
   go_wp2;clear k f b i;have p:=ae.t4 a Q s3 R E3;exact bq (by simp[results,results146,go_sem,p.box.cell]) rfl ⟨_,_,_,_,rfl,X,(p.below j.out (by omega))⟩
def H7 (w:World)(s:Bool)(V x:Int)(e:Ending)(w':World):Prop:=∃H L,e= .returned (.agg #[.bool s,.int .u64 H,.int .u64 L,.int .i64 x])/\(0<=H/\H < 18446744073709551616/\0<=L/\L < 18446744073709551616/\H*18446744073709551616+L=V)/\Below w.heap.size w w'
theorem mH{M k Q:Int}(h0:0<=M)(hM:LQ M)(hk:0<=k)(hQ:M/2^k.toNat=Q):Op.shift .shr .u64 M .i64 k=pure (.int .u64 Q):=by
 subst hQ
 rcases Int.lt_or_le k 65 with c | c
 ·exact shift_shr .u64 .i64 M k hk (by show k<=64;omega)
 ·have e1:min k.toNat IntKind.u64.bits=64:=by show min k.toNat 64=64;omega
  have e2:M/2^k.toNat=0:=Int.ediv_eq_zero_of_lt h0 (Int.lt_of_lt_of_le (show M < 2^64 from hM) (zj (by omega)))
  have e3:M.fdiv (2^64)=0:=by
   rw[Int.fdiv_eq_ediv_of_nonneg _ (by decide)];exact Int.ediv_eq_zero_of_lt h0 hM
  unfold Op.shift
  rw[if_neg (by omega),e1,e2]
  show pure (Value.int .u64 (M.fdiv (2^64)))=_
  rw[e3]
theorem zg{Q:Int}(h0:0<=Q)(h1:LQ Q):bits BinOp.or IntKind.u64 Q 1=Q/2*2+1:=by
 obtain⟨q,rfl⟩:=Int.eq_ofNat_of_zero_le h0;have h:=u64_or_nat q 1 (by omega) (by decide)
 have e:q ||| 1=q/2*2+1:=by
  apply Nat.eq_of_testBit_eq
  intro i
  cases i with
  | zero=>simp [Nat.testBit_zero]
  | succ i=>
   rw[Nat.testBit_or,Nat.testBit_add_one,Nat.testBit_add_one,Nat.testBit_add_one,show (1:Nat) /2=0 by decide,show (q/2*2+1) /2=q/2 by omega,Nat.zero_testBit,Bool.or_false]
 rw[e]at h;exact h
theorem EU{M:Int}{n:Nat}(h0:0<=M)(hM:LQ M)(h1:1<=n)(h2:n<=64):0<=M/2^n/\M/2^n < 18446744073709551616/\M/2^n*18446744073709551616+M*2^(64-n)%18446744073709551616=fj M n:=by
 obtain⟨a,b⟩:=div_le_self h0 (aN n);refine⟨a,by omega,?_⟩
 have e1:M*2^(64-n) /18446744073709551616=M/2^n:=by
  rw[show (18446744073709551616:Int)=2^n*2^(64-n) by rw[<-Int.pow_add,show n+(64-n)=64 by omega];rfl]
  exact Int.mul_ediv_mul_of_pos_left _ _ (aN _)
 unfold fj
 rw[if_pos h2,<-e1]
 omega
theorem tP{w:World}{s:Bool}{M E N X:Int}{n:Nat}(hT:Tb w)(h0:9223372036854775808<=M)(hM:LQ M)(hN:(n:Int)=N)(hX:E+N=X)(b1: -2000000<=E)(b2:E<=2000000)(n1:1<=n)(n2:n<=64):Calls prog 214 #[VQ 1 s M E,.int .i64 N] w (H7 w s (fj M n) X):=by
 delta VQ
 obtain⟨O,v2,t⟩:=EU (show 0<=M by omega) hM n1 n2
 obtain⟨H,A⟩:∃H,M/2^n=H:=⟨_,rfl⟩;obtain⟨P,C⟩:∃P,M*2^(64-n)=P:=⟨_,rfl⟩;obtain⟨L,B⟩:∃L,P%18446744073709551616=L:=⟨_,rfl⟩;rw[C,B]at t;rw[A]at O v2 t
 have J:0<=L/\L < 18446744073709551616:=by omega
 have Q:Hid (M/2^N.toNat=H):=ie (by rw[<-hN];exact A)
 have S:Hid (M*2^(64-N).toNat=P):=ie (by rw[<-hN,show (64-(n:Int)).toNat=64-n by omega];exact C)
 have R:Hid (IntKind.u64.wrap P=L):=ie (by rw[IntKind.wrap_u64];exact B)
 have T:=ie t
 have U:=ie (show IntKind.i64.wrap (E+N)=X by rw[hX];exact IntWalk.i64_in _ (by omega))
 have x:=ie (show IntKind.i64.wrap (64-N)=64-N from IntWalk.i64_in _ (by omega))
 have m1:1<=N:=by omega
 have m2:N<=64:=by omega
 clear A C B t hX hN
 go_enter func214,ntmps214
 go_upto_region 1 with fail
 generalize o:(w.alloc _).alloc _=w1 at *;obtain⟨h,i,m⟩:=Bo.en2 o;clear o;have j:=h.cell;have hx:=U.out
 go_upto_region 2 with fail
 clear hx;clear j;have D:=h.lt;have F:=i.lt;generalize p:w1.alloc _=w2 at *;obtain⟨l,I⟩:=Bo.nw p;clear p;refine aE ?_ h i m I;clear h i m I;intro h i m;have j:=h.cell;have k:=l.cell
 go_upto_region 3 with fail
 clear j k;refine Jo.rl (w1.heap.size) #[.bool s,.int .u64 H,.int .u64 0,.int .i64 X] 123 [0,1,2,3,4,5,6,7,8,9,10,11] [some 15,some 16,some 17,some 18,some 19,some 20,some 21,some 22,some 23,some 24,none,some 25,none] [[],[0],[],[1,2],[],[4],[],[6],[5,7],[],[3,9],[],[]] 13 1 [Jo.kp w.heap.size 2,Jo.LFact.eq (.int .u64 M),Jo.LFact.eq (.int .i64 N),Jo.LFact.eq (.int .u64 H),Jo.kp w.heap.size 2,Jo.LFact.eq (.int .u64 M),Jo.LFact.eq (.int .i64 N),Jo.LFact.eq (.int .i64 (64-N)),Jo.LFact.eq (.int .u64 L),Jo.kp w1.heap.size 1,Jo.LFact.done,Jo.kp w1.heap.size 2,Jo.LFact.any] (by kernel_rfl) (by kernel_rfl) (by decide) rfl ?_ ?_
 ·refine Jo.lm rfl ?_ ?_
  ·rintro f d K b;go_simp;exact b.out _ _ rfl (Jo.Off.refl _ _ _ _)
  refine Jo.lm rfl ?_ ?_
  ·rintro f d _ rfl K b;simp only[Jo.z]at b|-;replace h:=h.off (by omega) d;have j:=h.cell;go_simp;exact b.out _ _ rfl (Jo.Off.refl _ _ _ _)
  refine Jo.lm rfl ?_ ?_
  ·rintro f d K b;go_simp;exact b.out _ _ rfl (Jo.Off.refl _ _ _ _)
  refine Jo.lm rfl ?_ ?_
  ·rintro f d _ rfl _ rfl K b;have hh:=Q.out;go_simp;exact b.out _ _ rfl (Jo.Off.refl _ _ _ _)
  refine Jo.lm rfl ?_ ?_
  ·rintro f d K b;go_simp;exact b.out _ _ rfl (Jo.Off.refl _ _ _ _)
  refine Jo.lm rfl ?_ ?_
  ·rintro f d _ rfl K b;simp only[Jo.z]at b|-;replace h:=h.off (by omega) d;have j:=h.cell;go_simp;exact b.out _ _ rfl (Jo.Off.refl _ _ _ _)
  refine Jo.lm rfl ?_ ?_
  ·rintro f d K b;go_simp;exact b.out _ _ rfl (Jo.Off.refl _ _ _ _)
  refine Jo.lm rfl ?_ ?_
  ·rintro f d _ rfl K b;have V:=x.out;go_simp;exact b.out _ _ rfl (Jo.Off.refl _ _ _ _)
  refine Jo.lm rfl ?_ ?_
  ·rintro f d _ rfl _ rfl K b;have hp:=S.out;have hl:=R.out;go_simp;exact b.out _ _ rfl (Jo.Off.refl _ _ _ _)
  refine Jo.lm rfl ?_ ?_
  ·rintro f d K b;go_simp;exact b.out _ _ rfl (Jo.Off.refl _ _ _ _)
  refine Jo.lm rfl ?_ ?_
  ·rintro f d _ rfl _ rfl K b;simp only[Jo.z]at b|-
   rcases d.own with e | e
   ·have c:Bo f (w1.heap.size) #[.bool s,.int .u64 0,.int .u64 0,.int .i64 X] 123:=l.keep e
    have y0:=c.a 0 (.bool s) rfl;have W:=c.frozen 0;have y1:=c.a 1 (.int .u64 0) rfl;have Y:=c.frozen 1;have y2:=c.a 2 (.int .u64 0) rfl;have u2:=c.frozen 2;have y3:=c.a 3 (.int .i64 X) rfl;have u3:=c.frozen 3;go_simp
    have g:ae f (World.setCell f ⟨w1.heap.size,1,none⟩ (.int .u64 H)) _ _ #[.bool s,.int .u64 H,.int .u64 0,.int .i64 X] _:=ae.at4 c 1 (.int .u64 H)
    exact b.out undef _ g.box (Jo.Off.of_stn g)
   ·have c:Bo f (w1.heap.size) #[.bool s,.int .u64 H,.int .u64 0,.int .i64 X] 123:=e
    have y0:=c.a 0 (.bool s) rfl;have W:=c.frozen 0;have y1:=c.a 1 (.int .u64 H) rfl;have Y:=c.frozen 1;have y2:=c.a 2 (.int .u64 0) rfl;have u2:=c.frozen 2;have y3:=c.a 3 (.int .i64 X) rfl;have u3:=c.frozen 3;go_simp
    have g:ae f (World.setCell f ⟨w1.heap.size,1,none⟩ (.int .u64 H)) _ _ #[.bool s,.int .u64 H,.int .u64 0,.int .i64 X] _:=ae.at4 c 1 (.int .u64 H)
    exact b.out undef _ g.box (Jo.Off.of_stn g)
  refine Jo.lm rfl ?_ ?_
  ·rintro f d K b;go_simp;exact b.out _ _ rfl (Jo.Off.refl _ _ _ _)
  exact jo
 rintro u d _ _ _ rfl _ rfl _ rfl _ _ _ rfl _ rfl _ rfl _ rfl _ _ Z y _ rfl -;simp only[Jo.z];replace m:=ie (d.below m.out (by omega) l.lt);replace i:=i.off (by omega) d
 replace l:Bo u (w1.heap.size) #[.bool s,.int .u64 H,.int .u64 0,.int .i64 X] 123:=y
 have k:=l.cell;have q:=l.frozen
 refine jn 12 fun K b=>?_
 go_simp;refine b.out _ _ ?_;clear b K k q
 have g:ae u (World.setCell u ⟨w1.heap.size,2,none⟩ (.int .u64 L)) _ _ #[.bool s,.int .u64 H,.int .u64 L,.int .i64 X] _:=ae.at4 l 2 (.int .u64 L)
 replace i:=i.s g;replace m:=aP m g (by omega);replace l:=g.box;clear g;generalize World.setCell u ⟨w1.heap.size,2,none⟩ (.int .u64 L)=w4 at *;refine jd ?_;have G:=i.cell;have r:=i.frozen;have k:=l.cell;go_wp2;clear G r k
 have g:=ae.mk4 i (.bool s) (.int .u64 H) (.int .u64 L) (.int .i64 X);exact bq (v:= .agg #[.bool s,.int .u64 H,.int .u64 L,.int .i64 X]) (by simp[results,results214,go_sem,g.box.cell]) rfl ⟨H,L,rfl,⟨O,v2,J.1,J.2,T.out⟩,(g.below m.out (by omega))⟩
theorem qe{w:World}{s:Bool}{M E N X:Int}{n:Nat}(hT:Tb w)(h0:9223372036854775808<=M)(hM:LQ M)(hN:(n:Int)=N)(hX:E+N=X)(b1: -2000000<=E)(b2:E<=2000000)(n1:1<=n)(n2:64 < n)(n3:n<=4000000)(hr:M%2^(n-64)=0):Calls prog 214 #[VQ 1 s M E,.int .i64 N] w (H7 w s (fj M n) X):=by
 delta VQ
 obtain⟨D,v2⟩:=div_le_self (show 0<=M by omega) (aN (n-64))
 obtain⟨Q,j⟩:∃Q,M/2^(n-64)=Q:=⟨_,rfl⟩;obtain⟨k,J⟩:∃k,N-64=k:=⟨_,rfl⟩
 have h:k.toNat=n-64:=by omega
 have k1:1<=k:=by omega
 rw[j]at D v2
 have I:fj M n=Q:=by
  unfold fj
  rw[if_neg (by omega),if_pos hr,j]
 obtain⟨m,hm⟩:∃m:Nat,(m:Int)=M:=⟨M.toNat,by omega⟩
 obtain⟨z,hz⟩:∃z,((Lib.ctz 64 m:Nat):Int)=z:=⟨_,rfl⟩
 have L:m≠0:=by omega
 have O:m < 18446744073709551616:=by omega
 have hc:¬z < k:=by
  have h1:=rm (n:=n-64) L O
  have h2:m%2^(n-64)=0↔M%2^(n-64)=0:=by
   rw[<-hm]
   constructor
   ·intro c
    have:((m%2^(n-64):Nat):Int)=0:=by rw[c];rfl
    rw[<-this]
    push_cast
    rfl
   ·intro c
    have:((m%2^(n-64):Nat):Int)=0:=by
     rw[<-c]
     push_cast
     rfl
    omega
  have Z:n-64<=Lib.ctz 64 m↔M%2^(n-64)=0:=h1.trans h2
  have h4:=Z.2 hr
  omega
 have t:Hid (Op.shift .shr .u64 M .i64 k=pure (.int .u64 Q)):=ie (mH (by omega) hM (by omega) (by rw[h];exact j))
 have U:Hid (M/2^k.toNat=Q):=ie (by rw[h];exact j)
 have W:=ie (show IntKind.i64.wrap (E+N)=X by rw[hX];exact IntWalk.i64_in _ (by omega))
 have P:=ie (show IntKind.i64.wrap (N-64)=k by rw[J];exact IntWalk.i64_in _ (by omega))
 have R:=ie hm;have Y:=ie hz;have V:=ie I;have S:=ie (zg (Q:=Q) D (by omega))
 have m2:¬N<=64:=by omega
 obtain⟨o,x⟩:∃o,Q/2*2+1=o:=⟨_,rfl⟩;rw[x]at S
 have ob:0<=o/\o < 18446744073709551616:=by omega
 have T:=ie x;clear j hX hN hm hz I hr x h J
 go_enter func214,ntmps214
 go_upto_region 1 with fail
 generalize l:(w.alloc _).alloc _=w1 at *;obtain⟨f,a,d⟩:=Bo.en2 l;replace hT:=hT.below d.out;clear l;have b:=f.cell;have hx:=W.out
 go_upto_region 2 with fail
 clear hx;clear b;have A:=f.lt;have C:=a.lt;generalize p:w1.alloc _=F at *;obtain⟨g,H⟩:=Bo.nw p;clear p;refine dk ?_ f a hT d H;clear f a hT d H;intro f a hT d;have b:=f.cell;have i:=g.cell;have q:=g.frozen;have u:=P.out
 have y:=t.out;have hq:=U.out
 go_upto_region 7 with fail
 clear u y hq;clear b i q
 have e:ae F (World.setCell F ⟨w1.heap.size,2,none⟩ (.int .u64 Q)) _ _ #[.bool s,.int .u64 0,.int .u64 Q,.int .i64 X] _:=ae.at4 g 2 (.int .u64 Q)
 replace f:=f.s e;replace a:=a.s e;replace hT:=hT.s e;replace d:=aP d e (by omega);replace g:=e.box;clear e;generalize World.setCell F ⟨w1.heap.size,2,none⟩ (.int .u64 Q)=w3 at *;have b:=f.cell
 go_wp2_with fail
 refine(IP hT L O R.out Y.out).mono ?_;rintro ee w4 ⟨rfl,B⟩;clear b;refine aE ?_ a g d B;clear a g d B;intro a g d;have G:=a.cell;have r:=a.frozen;have i:=g.cell;go_wp2;clear G r i;have e:=ae.mk4 a (.bool s) (.int .u64 0) (.int .u64 Q) (.int .i64 X)
 exact bq (v:= .agg #[.bool s,.int .u64 0,.int .u64 Q,.int .i64 X]) (by simp[results,results214,go_sem,e.box.cell]) rfl ⟨0,Q,rfl,⟨by decide,by decide,D,by omega,by rw[V.out];omega⟩,(e.below d.out (by omega))⟩
theorem tQ{w:World}{s:Bool}{M E N X:Int}{n:Nat}(hT:Tb w)(h0:9223372036854775808<=M)(hM:LQ M)(hN:(n:Int)=N)(hX:E+N=X)(b1: -2000000<=E)(b2:E<=2000000)(n1:1<=n)(n2:64 < n)(n3:n<=4000000)(hr:M%2^(n-64)≠0):Calls prog 214 #[VQ 1 s M E,.int .i64 N] w (H7 w s (fj M n) X):=by
 delta VQ
 obtain⟨T,v2⟩:=div_le_self (show 0<=M by omega) (aN (n-64))
 obtain⟨Q,l⟩:∃Q,M/2^(n-64)=Q:=⟨_,rfl⟩;obtain⟨k,O⟩:∃k,N-64=k:=⟨_,rfl⟩
 have j:k.toNat=n-64:=by omega
 have k1:1<=k:=by omega
 rw[l]at T v2
 have L:fj M n=Q/2*2+1:=by
  unfold fj
  rw[if_neg (by omega),if_neg hr,l]
 obtain⟨m,hm⟩:∃m:Nat,(m:Int)=M:=⟨M.toNat,by omega⟩
 obtain⟨z,hz⟩:∃z,((Lib.ctz 64 m:Nat):Int)=z:=⟨_,rfl⟩
 have P:m≠0:=by omega
 have R:m < 18446744073709551616:=by omega
 have hc:z < k:=by
  have h1:=rm (n:=n-64) P R
  have h2:m%2^(n-64)=0↔M%2^(n-64)=0:=by
   rw[<-hm]
   constructor
   ·intro c
    have:((m%2^(n-64):Nat):Int)=0:=by rw[c];rfl
    rw[<-this]
    push_cast
    rfl
   ·intro c
    have:((m%2^(n-64):Nat):Int)=0:=by
     rw[<-c]
     push_cast
     rfl
    omega
  have h3:n-64<=Lib.ctz 64 m↔M%2^(n-64)=0:=h1.trans h2
  have h4:¬(n-64<=Lib.ctz 64 m):=fun c=>hr (h3.1 c)
  omega
 have x:Hid (Op.shift .shr .u64 M .i64 k=pure (.int .u64 Q)):=ie (mH (by omega) hM (by omega) (by rw[j];exact l))
 have W:Hid (M/2^k.toNat=Q):=ie (by rw[j];exact l)
 have Z:=ie (show IntKind.i64.wrap (E+N)=X by rw[hX];exact IntWalk.i64_in _ (by omega))
 have U:=ie (show IntKind.i64.wrap (N-64)=k by rw[O];exact IntWalk.i64_in _ (by omega))
 have V:=ie hm;have HZ:=ie hz;have Y:=ie L;have J:=ie (zg (Q:=Q) T (by omega))
 have m2:¬N<=64:=by omega
 obtain⟨o,r⟩:∃o,Q/2*2+1=o:=⟨_,rfl⟩;rw[r]at J
 have S:0<=o/\o < 18446744073709551616:=by omega
 have u:=ie r;clear l hX hN hm hz L hr r j O
 go_enter func214,ntmps214
 go_upto_region 1 with fail
 generalize p:(w.alloc _).alloc _=w1 at *;obtain⟨i,b,d⟩:=Bo.en2 p;replace hT:=hT.below d.out;clear p;have f:=i.cell;have hx:=Z.out
 go_upto_region 2 with fail
 clear hx;clear f;have C:=i.lt;have D:=b.lt;generalize q:w1.alloc _=F at *;obtain⟨e,I⟩:=Bo.nw q;clear q;refine dk ?_ i b hT d I;clear i b hT d I;intro i b hT d;have f:=i.cell;have g:=e.cell;have h:=e.frozen;have y:=U.out
 have A:=x.out;have hq:=W.out
 go_upto_region 7 with fail
 clear y A hq;clear f g h
 have a:ae F (World.setCell F ⟨w1.heap.size,2,none⟩ (.int .u64 Q)) _ _ #[.bool s,.int .u64 0,.int .u64 Q,.int .i64 X] _:=ae.at4 e 2 (.int .u64 Q)
 replace i:=i.s a;replace b:=b.s a;replace hT:=hT.s a;replace d:=aP d a (by omega);replace e:=a.box;clear a;generalize World.setCell F ⟨w1.heap.size,2,none⟩ (.int .u64 Q)=w3 at *;have f:=i.cell
 go_wp2_with fail
 refine(IP hT P R V.out HZ.out).mono ?_;rintro ee G ⟨rfl,B⟩;clear f;refine aE ?_ b e d B;clear b e d B;intro b e d;have g:=e.cell;have h:=e.frozen;have r:=J.out
 go_upto_region 9 with fail
 clear r;clear g h
 have a:ae G (World.setCell G ⟨w1.heap.size,2,none⟩ (.int .u64 o)) _ _ #[.bool s,.int .u64 0,.int .u64 o,.int .i64 X] _:=ae.at4 e 2 (.int .u64 o)
 replace b:=b.s a;replace d:=aP d a (by omega);replace e:=a.box;clear a;generalize World.setCell G ⟨w1.heap.size,2,none⟩ (.int .u64 o)=w5 at *;have H:=b.cell;have t:=b.frozen;have g:=e.cell;go_wp2;clear H t g;have a:=ae.mk4 b (.bool s) (.int .u64 0) (.int .u64 o) (.int .i64 X)
 exact bq (v:= .agg #[.bool s,.int .u64 0,.int .u64 o,.int .i64 X]) (by simp[results,results214,go_sem,a.box.cell]) rfl ⟨0,o,rfl,⟨by decide,by decide,S.1,S.2,by rw[Y.out,u.out];omega⟩,(a.below d.out (by omega))⟩
theorem f8{w:World}{s:Bool}{M E N X:Int}{n:Nat}(hT:Tb w)(h0:9223372036854775808<=M)(hM:LQ M)(hN:(n:Int)=N)(hX:E+N=X)(b1: -2000000<=E)(b2:E<=2000000)(n1:1<=n)(n3:n<=4000000):Calls prog 214 #[VQ 1 s M E,.int .i64 N] w (H7 w s (fj M n) X):=by
 delta VQ
 by_cases n2:n<=64
 ·exact tP hT h0 hM hN hX b1 b2 n1 n2
 ·by_cases hr:M%2^(n-64)=0
  ·exact qe hT h0 hM hN hX b1 b2 n1 (by omega) n3 hr
  ·exact tQ hT h0 hM hN hX b1 b2 n1 (by omega) n3 hr
theorem zi{w:World}{s1 s2:Bool}{M1 M2 E1 E2:Int}(h:E1 < E2):Calls prog 213 #[VQ 1 s1 M1 E1,VQ 1 s2 M2 E2] w fun e w'=>e= .returned (.tuple #[.agg #[.int .i64 1,.bool s2,.int .u64 M2,.int .i64 E2],.agg #[.int .i64 1,.bool s1,.int .u64 M1,.int .i64 E1]])/\Below w.heap.size w w':=by
 delta VQ
 go_enter func213,ntmps213
 go_upto_region 1 with fail
 generalize k:(((w.alloc _).alloc _).alloc _).alloc _=w1 at *;obtain⟨o,p,i,g,j⟩:=Bo.en4 k;clear k;have l:=o.cell;have m:=p.cell
 go_upto_region 2 with fail
 clear l m;refine Jo.rl (w.heap.size+1+1) #[.int .i64 1,.bool s2,.int .u64 M2,.int .i64 E2] 24 [0,1,2] [some 25,some 26,none,none] [[],[],[0],[]] 4 1 [Jo.LFact.eq (.agg #[.int .i64 1,.bool s2,.int .u64 M2,.int .i64 E2]),Jo.LFact.eq (.agg #[.int .i64 1,.bool s1,.int .u64 M1,.int .i64 E1]),Jo.LFact.done,Jo.LFact.any] (by kernel_rfl) (by kernel_rfl) (by decide) rfl ?_ ?_
 ·refine Jo.lm rfl ?_ ?_
  ·rintro u d K b;simp only[Jo.z]at b|-;replace p:=p.off (by omega) d;have m:=p.cell;go_simp;exact b.out _ _ rfl (Jo.Off.refl _ _ _ _)
  refine Jo.lm rfl ?_ ?_
  ·rintro u d K b;simp only[Jo.z]at b|-;replace o:=o.off (by omega) d;have l:=o.cell;go_simp;exact b.out _ _ rfl (Jo.Off.refl _ _ _ _)
  refine Jo.lm rfl ?_ ?_
  ·rintro u d _ rfl K b;simp only[Jo.z]at b|-
   obtain⟨q,r,v2,t,c⟩:∃q r v2 t,Bo u (w.heap.size+1+1) #[q,r,v2,t] 24:=by
    rcases d.own with e | e
    ·exact⟨_,_,_,_,i.keep e⟩
    ·exact⟨_,_,_,_,e⟩
   have H:=c.a 0 (q) rfl;have D:=c.frozen 0;have I:=c.a 1 (r) rfl;have E:=c.frozen 1;have J:=c.a 2 (v2) rfl;have C:=c.frozen 2;have L:=c.a 3 (t) rfl;have F:=c.frozen 3;go_simp;have f:=ae.t4 c 1 s2 M2 E2;exact b.out undef _ f.box (Jo.Off.of_stn f)
  exact jo
 rintro A d _ rfl _ rfl C B -;simp only[Jo.z];replace j:=ie (d.below j.out (by omega) i.lt);replace g:=g.off (by omega) d
 replace i:Bo A (w.heap.size+1+1) #[.int .i64 1,.bool s2,.int .u64 M2,.int .i64 E2] 24:=B
 have x:=g.cell;have n:=g.frozen
 refine jn 3 fun K b=>?_
 go_simp;refine b.out _ _ ?_;clear b K x n;generalize y:(((A.setCell _ _).setCell _ _).setCell _ _).setCell _ _=G at *;have f:=ae.of4 g y;replace i:=i.s f;replace j:=aP j f (by omega);replace g:=f.box;clear f y;refine jd ?_;go_wp2;exact bq (v:= .tuple #[.agg #[.int .i64 1,.bool s2,.int .u64 M2,.int .i64 E2],.agg #[.int .i64 1,.bool s1,.int .u64 M1,.int .i64 E1]]) (by simp[results,results213,go_sem,i.cell,g.cell]) rfl ⟨rfl,j.out⟩
theorem qm{w:World}{s1 s2:Bool}{M1 M2 E1 E2:Int}(h:E1=E2)(hm:M1 < M2):Calls prog 213 #[VQ 1 s1 M1 E1,VQ 1 s2 M2 E2] w fun e w'=>e= .returned (.tuple #[.agg #[.int .i64 1,.bool s2,.int .u64 M2,.int .i64 E2],.agg #[.int .i64 1,.bool s1,.int .u64 M1,.int .i64 E1]])/\Below w.heap.size w w':=by
 delta VQ
 subst h
 have h1:¬E1 < E1:=by omega
 go_enter func213,ntmps213
 go_upto_region 1 with fail
 generalize k:(((w.alloc _).alloc _).alloc _).alloc _=w1 at *;obtain⟨o,p,i,g,j⟩:=Bo.en4 k;clear k;have l:=o.cell;have m:=p.cell
 go_upto_region 2 with fail
 clear l m;refine Jo.rl (w.heap.size+1+1) #[.int .i64 1,.bool s2,.int .u64 M2,.int .i64 E1] 24 [0,1,2] [some 25,some 26,none,none] [[],[],[0],[]] 4 1 [Jo.LFact.eq (.agg #[.int .i64 1,.bool s2,.int .u64 M2,.int .i64 E1]),Jo.LFact.eq (.agg #[.int .i64 1,.bool s1,.int .u64 M1,.int .i64 E1]),Jo.LFact.done,Jo.LFact.any] (by kernel_rfl) (by kernel_rfl) (by decide) rfl ?_ ?_
 ·refine Jo.lm rfl ?_ ?_
  ·rintro u d K b;simp only[Jo.z]at b|-;replace p:=p.off (by omega) d;have m:=p.cell;go_simp;exact b.out _ _ rfl (Jo.Off.refl _ _ _ _)
  refine Jo.lm rfl ?_ ?_
  ·rintro u d K b;simp only[Jo.z]at b|-;replace o:=o.off (by omega) d;have l:=o.cell;go_simp;exact b.out _ _ rfl (Jo.Off.refl _ _ _ _)
  refine Jo.lm rfl ?_ ?_
  ·rintro u d _ rfl K b;simp only[Jo.z]at b|-
   obtain⟨q,r,v2,t,c⟩:∃q r v2 t,Bo u (w.heap.size+1+1) #[q,r,v2,t] 24:=by
    rcases d.own with e | e
    ·exact⟨_,_,_,_,i.keep e⟩
    ·exact⟨_,_,_,_,e⟩
   have H:=c.a 0 (q) rfl;have D:=c.frozen 0;have I:=c.a 1 (r) rfl;have E:=c.frozen 1;have J:=c.a 2 (v2) rfl;have C:=c.frozen 2;have L:=c.a 3 (t) rfl;have F:=c.frozen 3;go_simp;have f:=ae.t4 c 1 s2 M2 E1;exact b.out undef _ f.box (Jo.Off.of_stn f)
  exact jo
 rintro A d _ rfl _ rfl C B -;simp only[Jo.z];replace j:=ie (d.below j.out (by omega) i.lt);replace g:=g.off (by omega) d
 replace i:Bo A (w.heap.size+1+1) #[.int .i64 1,.bool s2,.int .u64 M2,.int .i64 E1] 24:=B
 have x:=g.cell;have n:=g.frozen
 refine jn 3 fun K b=>?_
 go_simp;refine b.out _ _ ?_;clear b K x n;generalize y:(((A.setCell _ _).setCell _ _).setCell _ _).setCell _ _=G at *;have f:=ae.of4 g y;replace i:=i.s f;replace j:=aP j f (by omega);replace g:=f.box;clear f y;refine jd ?_;go_wp2;exact bq (v:= .tuple #[.agg #[.int .i64 1,.bool s2,.int .u64 M2,.int .i64 E1],.agg #[.int .i64 1,.bool s1,.int .u64 M1,.int .i64 E1]]) (by simp[results,results213,go_sem,i.cell,g.cell]) rfl ⟨rfl,j.out⟩
theorem ql{w:World}{s1 s2:Bool}{M1 M2 E1 E2:Int}(h:E1=E2)(hm:¬M1 < M2):Calls prog 213 #[VQ 1 s1 M1 E1,VQ 1 s2 M2 E2] w fun e w'=>e= .returned (.tuple #[.agg #[.int .i64 1,.bool s1,.int .u64 M1,.int .i64 E1],.agg #[.int .i64 1,.bool s2,.int .u64 M2,.int .i64 E2]])/\Below w.heap.size w w':=by
 delta VQ
 subst h
 have h1:¬E1 < E1:=by omega
 go_enter func213,ntmps213
 go_upto_region 1 with fail
 generalize k:(((w.alloc _).alloc _).alloc _).alloc _=w1 at *;obtain⟨o,p,i,g,j⟩:=Bo.en4 k;clear k;have l:=o.cell;have m:=p.cell
 go_upto_region 3 with fail
 clear l m;refine Jo.rl (w.heap.size+1+1) #[.int .i64 1,.bool s1,.int .u64 M1,.int .i64 E1] 24 [0,1,2] [some 27,some 28,none,none] [[],[],[0],[]] 4 1 [Jo.LFact.eq (.agg #[.int .i64 1,.bool s1,.int .u64 M1,.int .i64 E1]),Jo.LFact.eq (.agg #[.int .i64 1,.bool s2,.int .u64 M2,.int .i64 E1]),Jo.LFact.done,Jo.LFact.any] (by kernel_rfl) (by kernel_rfl) (by decide) rfl ?_ ?_
 ·refine Jo.lm rfl ?_ ?_
  ·rintro u d K b;simp only[Jo.z]at b|-;replace o:=o.off (by omega) d;have l:=o.cell;go_simp;exact b.out _ _ rfl (Jo.Off.refl _ _ _ _)
  refine Jo.lm rfl ?_ ?_
  ·rintro u d K b;simp only[Jo.z]at b|-;replace p:=p.off (by omega) d;have m:=p.cell;go_simp;exact b.out _ _ rfl (Jo.Off.refl _ _ _ _)
  refine Jo.lm rfl ?_ ?_
  ·rintro u d _ rfl K b;simp only[Jo.z]at b|-
   obtain⟨q,r,v2,t,c⟩:∃q r v2 t,Bo u (w.heap.size+1+1) #[q,r,v2,t] 24:=by
    rcases d.own with e | e
    ·exact⟨_,_,_,_,i.keep e⟩
    ·exact⟨_,_,_,_,e⟩
   have H:=c.a 0 (q) rfl;have D:=c.frozen 0;have I:=c.a 1 (r) rfl;have E:=c.frozen 1;have J:=c.a 2 (v2) rfl;have C:=c.frozen 2;have L:=c.a 3 (t) rfl;have F:=c.frozen 3;go_simp;have f:=ae.t4 c 1 s1 M1 E1;exact b.out undef _ f.box (Jo.Off.of_stn f)
  exact jo
 rintro A d _ rfl _ rfl C B -;simp only[Jo.z];replace j:=ie (d.below j.out (by omega) i.lt);replace g:=g.off (by omega) d
 replace i:Bo A (w.heap.size+1+1) #[.int .i64 1,.bool s1,.int .u64 M1,.int .i64 E1] 24:=B
 have x:=g.cell;have n:=g.frozen
 refine jn 3 fun K b=>?_
 go_simp;refine b.out _ _ ?_;clear b K x n;generalize y:(((A.setCell _ _).setCell _ _).setCell _ _).setCell _ _=G at *;have f:=ae.of4 g y;replace i:=i.s f;replace j:=aP j f (by omega);replace g:=f.box;clear f y;refine jd ?_;go_wp2;exact bq (v:= .tuple #[.agg #[.int .i64 1,.bool s1,.int .u64 M1,.int .i64 E1],.agg #[.int .i64 1,.bool s2,.int .u64 M2,.int .i64 E1]]) (by simp[results,results213,go_sem,i.cell,g.cell]) rfl ⟨rfl,j.out⟩
theorem zh{w:World}{s1 s2:Bool}{M1 M2 E1 E2:Int}(h:E2 < E1):Calls prog 213 #[VQ 1 s1 M1 E1,VQ 1 s2 M2 E2] w fun e w'=>e= .returned (.tuple #[.agg #[.int .i64 1,.bool s1,.int .u64 M1,.int .i64 E1],.agg #[.int .i64 1,.bool s2,.int .u64 M2,.int .i64 E2]])/\Below w.heap.size w w':=by
 delta VQ
 have h1:¬E1 < E2:=by omega
 have h2:(E1==E2)=false:=by
  have:E1≠E2:=by omega
  simpa using this
 go_enter func213,ntmps213
 go_upto_region 1 with fail
 generalize k:(((w.alloc _).alloc _).alloc _).alloc _=w1 at *;obtain⟨o,p,i,g,j⟩:=Bo.en4 k;clear k;have l:=o.cell;have m:=p.cell
 go_upto_region 3 with fail
 clear l m;refine Jo.rl (w.heap.size+1+1) #[.int .i64 1,.bool s1,.int .u64 M1,.int .i64 E1] 24 [0,1,2] [some 27,some 28,none,none] [[],[],[0],[]] 4 1 [Jo.LFact.eq (.agg #[.int .i64 1,.bool s1,.int .u64 M1,.int .i64 E1]),Jo.LFact.eq (.agg #[.int .i64 1,.bool s2,.int .u64 M2,.int .i64 E2]),Jo.LFact.done,Jo.LFact.any] (by kernel_rfl) (by kernel_rfl) (by decide) rfl ?_ ?_
 ·refine Jo.lm rfl ?_ ?_
  ·rintro u d K b;simp only[Jo.z]at b|-;replace o:=o.off (by omega) d;have l:=o.cell;go_simp;exact b.out _ _ rfl (Jo.Off.refl _ _ _ _)
  refine Jo.lm rfl ?_ ?_
  ·rintro u d K b;simp only[Jo.z]at b|-;replace p:=p.off (by omega) d;have m:=p.cell;go_simp;exact b.out _ _ rfl (Jo.Off.refl _ _ _ _)
  refine Jo.lm rfl ?_ ?_
  ·rintro u d _ rfl K b;simp only[Jo.z]at b|-
   obtain⟨q,r,v2,t,c⟩:∃q r v2 t,Bo u (w.heap.size+1+1) #[q,r,v2,t] 24:=by
    rcases d.own with e | e
    ·exact⟨_,_,_,_,i.keep e⟩
    ·exact⟨_,_,_,_,e⟩
   have H:=c.a 0 (q) rfl;have D:=c.frozen 0;have I:=c.a 1 (r) rfl;have E:=c.frozen 1;have J:=c.a 2 (v2) rfl;have C:=c.frozen 2;have L:=c.a 3 (t) rfl;have F:=c.frozen 3;go_simp;have f:=ae.t4 c 1 s1 M1 E1;exact b.out undef _ f.box (Jo.Off.of_stn f)
  exact jo
 rintro A d _ rfl _ rfl C B -;simp only[Jo.z];replace j:=ie (d.below j.out (by omega) i.lt);replace g:=g.off (by omega) d
 replace i:Bo A (w.heap.size+1+1) #[.int .i64 1,.bool s1,.int .u64 M1,.int .i64 E1] 24:=B
 have x:=g.cell;have n:=g.frozen
 refine jn 3 fun K b=>?_
 go_simp;refine b.out _ _ ?_;clear b K x n;generalize y:(((A.setCell _ _).setCell _ _).setCell _ _).setCell _ _=G at *;have f:=ae.of4 g y;replace i:=i.s f;replace j:=aP j f (by omega);replace g:=f.box;clear f y;refine jd ?_;go_wp2;exact bq (v:= .tuple #[.agg #[.int .i64 1,.bool s1,.int .u64 M1,.int .i64 E1],.agg #[.int .i64 1,.bool s2,.int .u64 M2,.int .i64 E2]]) (by simp[results,results213,go_sem,i.cell,g.cell]) rfl ⟨rfl,j.out⟩
theorem jT{s:Bool}{H L e V:Int}{f:Bool->Int}(hH:0<=H)(hH2:LQ H)(hL:0<=L)(hL2:LQ L)(hV:H*18446744073709551616+L=V)(e1: -2900000<=e)(e2:e<=2900000)(h:∀up,dM up (mk (an s V) (e-64)).1 (mk (an s V) (e-64)).2=f up):Wd s H L e f:=by
 obtain⟨a,rfl⟩:=Int.eq_ofNat_of_zero_le hH;obtain⟨b,rfl⟩:=Int.eq_ofNat_of_zero_le hL
 refine⟨a,b,by omega,by omega,rfl,rfl,e1,e2,fun up=>?_⟩
 have e:((a*18446744073709551616+b:Nat):Int)=V:=by omega
 rw[e];exact h up
theorem gH{H1 L1 H2 L2 V1 V2:Int}(h1:0<=H1/\H1 < 18446744073709551616/\0<=L1/\L1 < 18446744073709551616/\H1*18446744073709551616+L1=V1)(h2:0<=H2/\H2 < 18446744073709551616/\0<=L2/\L2 < 18446744073709551616/\H2*18446744073709551616+L2=V2)(h:V1+V2 < 340282366920938463463374607431768211456):
  ∃S c T d,(L1+L2+0)%18446744073709551616=S/\(L1+L2+0) /18446744073709551616=c/\(H1+H2+c)%18446744073709551616=T/\(H1+H2+c) /18446744073709551616=d/\0<=c/\c<=1/\0<=S/\S < 18446744073709551616/\0<=T/\T < 18446744073709551616/\T*18446744073709551616+S=V1+V2:=by
 refine⟨_,_,_,_,rfl,rfl,rfl,rfl,?_⟩
 omega
theorem gV{H1 L1 H2 L2 V1 V2:Int}(h1:0<=H1/\H1 < 18446744073709551616/\0<=L1/\L1 < 18446744073709551616/\H1*18446744073709551616+L1=V1)(h2:0<=H2/\H2 < 18446744073709551616/\0<=L2/\L2 < 18446744073709551616/\H2*18446744073709551616+L2=V2)(h:0<=V1-V2):
  ∃S c T d,(L1-L2-0)%18446744073709551616=S/\(if L1 < L2+0 then (1:Int)else 0)=c/\(H1-H2-c)%18446744073709551616=T/\(if H1 < H2+c then (1:Int)else 0)=d/\0<=c/\c<=1/\0<=S/\S < 18446744073709551616/\0<=T/\T < 18446744073709551616/\T*18446744073709551616+S=V1-V2:=by
 by_cases q:L1 < L2+0
 ·exact⟨_,1,_,_,rfl,if_pos q,rfl,rfl,by omega,by omega,by omega,by omega,by omega,by omega,by omega⟩
 ·exact⟨_,0,_,_,rfl,if_neg q,rfl,rfl,by omega,by omega,by omega,by omega,by omega,by omega,by omega⟩
theorem FG{w:World}{s1 s2:Bool}{M1 M2 E1 E2 x y:Int}(hT:Tb w)(q1:Fq 1 s1 M1 E1 x)(q2:Fq 1 s2 M2 E2 y)(h:E1 < E2):Calls prog 173 #[VQ 1 s1 M1 E1,VQ 1 s2 M2 E2] w (Ge w fun up=>dj up x y):=by
 delta VQ
 obtain⟨a1,a2,a3,a4,_⟩:=gW q1;obtain⟨b1,b2,b3,b4,_⟩:=gW q2;have HO:=ie (h);obtain⟨n,hn⟩:∃n:Nat,(n:Int)=E2-E1+1:=⟨(E2-E1+1).toNat,by omega⟩
 have bA:∀(S:Int) up,S=M2*9223372036854775808+an (s2 !=s1) (fj M1 n)->0<=S/\S < 340282366920938463463374607431768211456/\dM up (mk (an s2 S) (E2+1-64)).1 (mk (an s2 S) (E2+1-64)).2=dj up x y:=fun S up hS=>by
  obtain⟨u1,u2,u3⟩:=jb up q2 q1 (by omega) hn hS;refine⟨u1,u2,?_⟩
  rw[show E2+1-64=E2-63 by omega,u3]
  exact fy up
 have O:=ie bA;obtain⟨N,hN⟩:∃N,(n:Int)=N:=⟨_,rfl⟩;obtain⟨D,hD⟩:∃D,E2-E1=D:=⟨_,rfl⟩
 have n1:1<=n:=by omega
 have n3:n<=4000000:=by omega
 have HN:=ie hN
 have HD:=ie (show IntKind.i64.wrap (E2-E1)=D by rw[hD];exact IntWalk.i64_in _ (by omega))
 have bC:=ie (show IntKind.i64.wrap (D+1)=N by rw[show D+1=N by omega];exact IntWalk.i64_in _ (by omega))
 obtain⟨Y,hY⟩:∃Y,E1+N=Y:=⟨_,rfl⟩;have HY:=ie hY;obtain⟨Z,hZ⟩:∃Z,E2+1=Z:=⟨_,rfl⟩;have HZ:=ie hZ
 have z1: -2900000<=Z:=by omega
 have z2:Z<=2900000:=by omega
 have v1:fj M2 1=M2*9223372036854775808:=by
  unfold fj
  rw[if_pos (by decide)]
  rfl
 have bD:=ie v1
 have g1:9223372036854775808<=M2:=by omega
 have g2:M2 < 18446744073709551616:=by omega
 have g3: -2000000<=E2:=by omega
 have g4:E2<=2000000:=by omega
 have k1:9223372036854775808<=M1:=by omega
 have k2:M1 < 18446744073709551616:=by omega
 have k3: -2000000<=E1:=by omega
 have k4:E1<=2000000:=by omega
 clear hn hN hD hY hZ v1 bA h q1 q2 a1 a2 a3 a4 b1 b2 b3 b4
 go_enter func173,ntmps173
 go_upto_region 1 with fail
 generalize X:((w.alloc _).alloc _).alloc _=w1 at *;obtain⟨X2,X3,a,f⟩:=Bo.en3 X;replace hT:=hT.below f.out;clear X;have hE:=X2.cell;have hF:=X3.cell
 go_wp2_with fail
 refine(zi HO.out).mono ?_;rintro ee w2 ⟨rfl,B⟩;clear hE hF;refine aE ?_ a hT f B;clear a hT f B;intro a hT f
 go_upto_region 2 with fail
 clear X2 X3
 have bB:(World.alloc w2 (.cells #[.int .i64 1,.bool s2,.int .u64 M2,.int .i64 E2] 24)).heap.size=w2.heap.size+1:=by simp
 have bN:=a.lt;have BX:=ab w2 (.cells #[.int .i64 1,.bool s2,.int .u64 M2,.int .i64 E2] 24);replace a:=a.b BX;replace hT:=hT.b BX;replace f:=ie (bt f.out BX);have i:=Bo.new w2 #[.int .i64 1,.bool s2,.int .u64 M2,.int .i64 E2] 24
 generalize o:World.alloc w2 (.cells #[.int .i64 1,.bool s2,.int .u64 M2,.int .i64 E2] 24)=w3 at *;clear o;have I:=a.lt;have H:=i.lt;generalize o:w3.alloc _=w4 at *;obtain⟨m,E⟩:=Bo.nw o;clear o;refine dk ?_ a i hT f E;clear a i hT f E;intro a i hT f;rw[bB]at m H I;clear bB
 have p:=i.cell
 go_wp2_with fail
 refine(f8 (n:=1) (s:=s2) hT g1 g2 (by rfl) HZ.out g3 g4 (by decide) (by decide)).mono ?_;rintro ee C ⟨H1,L1,rfl,t,B⟩;clear p;refine dG ?_ a i m hT f B;clear a i m hT f B;intro a i m hT f;rw[bD.out]at t
 go_upto_region 3 with fail
 have gP:=a.lt;have gB:=i.lt;have gO:=m.lt;generalize o:C.alloc _=w6 at *;obtain⟨j,E⟩:=Bo.nw o;clear o;refine dG ?_ a i m hT f E;clear a i m hT f E;intro a i m hT f;have p:=i.cell;have u:=m.cell;have hd:=HD.out
 have bH:=bC.out
 go_wp2_with fail
 refine(f8 (s:=s1) hT k1 k2 HN.out HY.out k3 k4 n1 n3).mono ?_;rintro ee w7 ⟨H2,L2,rfl,p2,B⟩;clear p u;refine dG ?_ a i m j f B;clear a i m j f B;intro a i m j f;clear hd bH
 go_upto_region 5 with fail
 have hC:=a.lt;have gS:=i.lt;have hA:=m.lt;have hB:=j.lt;generalize o:w7.alloc _=M at *;obtain⟨A,E⟩:=Bo.nw o;clear o;refine dG ?_ a i m j f E;clear a i m j f E;intro a i m j f
 by_cases hs:s2=s1
 ·subst hs
  have r:(s2 !=s2)=false:=by cases s2 <;> rfl
  have g:=O.out (M2*9223372036854775808+fj M1 n);rw[r,bl]at g;have hb:=(g true rfl).2.1;obtain⟨S,c,T,d,Q,R,U,V,c0,c1,o1,o2,o3,o4,o5⟩:=gH t p2 hb
  have F:=fun W:World=>f7 W t.2.2.1 p2.2.2.1 (by decide) (by decide) Q R
  have G:=fun W:World=>f7 W t.1 p2.1 c0 c1 U V
  have P:=ie (And.intro o5 g)
  clear Q R U V t p2 hb g o5;have p:=i.cell;have u:=m.cell;have k:=j.cell;have l:=j.frozen;have q:=A.cell
  go_upto_region 7 with (simp only[F])
  clear p u k l q
  have e:ae M (World.setCell M ⟨C.heap.size,2,none⟩ (.int .u64 S)) _ _ #[.bool s2,.int .u64 H1,.int .u64 S,.int .i64 Z] _:=ae.at4 j 2 (.int .u64 S)
  replace a:=a.s e;replace i:=i.s e;replace m:=m.s e;replace A:=A.s e;replace f:=aP f e (by omega);replace j:=e.box;clear e;generalize World.setCell M ⟨C.heap.size,2,none⟩ (.int .u64 S)=J at *;have k:=j.cell;have l:=j.frozen;have q:=A.cell
  go_upto_region 10 with (simp only[G])
  clear k l q
  have e:ae J (World.setCell J ⟨C.heap.size,1,none⟩ (.int .u64 T)) _ _ #[.bool s2,.int .u64 T,.int .u64 S,.int .i64 Z] _:=ae.at4 j 1 (.int .u64 T)
  replace a:=a.s e;replace i:=i.s e;replace m:=m.s e;replace A:=A.s e;replace f:=aP f e (by omega);replace j:=e.box;clear e;generalize World.setCell J ⟨C.heap.size,1,none⟩ (.int .u64 T)=wA at *;have L:=a.cell;have z:=a.frozen;have k:=j.cell
  go_wp2;clear L z k;have e:=ae.mk4 a (.bool s2) (.int .u64 T) (.int .u64 S) (.int .i64 Z)
  exact bq (v:= .agg #[.bool s2,.int .u64 T,.int .u64 S,.int .i64 Z]) (by simp[results,results173,go_sem,e.box.cell]) rfl ⟨_,_,_,_,rfl,jT o3 o4 o1 o2 P.out.1 z1 z2 fun up=>by rw[<-HZ.out];exact(P.out.2 up (by first | rfl | trivial)).2.2,(e.below f.out (by omega))⟩
 ·have r:(s2 !=s1)=true:=by cases s2 <;> cases s1 <;> first | rfl | exact absurd rfl hs
  have hG:(s2==s1)=false:=by cases s2 <;> cases s1 <;> first | rfl | exact absurd rfl hs
  have g:=O.out (M2*9223372036854775808-fj M1 n);rw[r,bn]at g;have hb:=(g true (by omega)).1;obtain⟨S,c,T,d,Q,R,U,V,c0,c1,o1,o2,o3,o4,o5⟩:=gV t p2 hb
  have F:=fun W:World=>f9 W t.2.2.1 t.2.2.2.1 p2.2.2.1 p2.2.2.2.1 (by decide) (by decide) Q R
  have G:=fun W:World=>f9 W t.1 t.2.1 p2.1 p2.2.1 c0 c1 U V
  have P:=ie (And.intro o5 g)
  clear Q R U V t p2 hb g o5;have p:=i.cell;have u:=m.cell;have k:=j.cell;have l:=j.frozen;have q:=A.cell
  go_upto_region 9 with (simp only[F])
  clear p u k l q
  have e:ae M (World.setCell M ⟨C.heap.size,2,none⟩ (.int .u64 S)) _ _ #[.bool s2,.int .u64 H1,.int .u64 S,.int .i64 Z] _:=ae.at4 j 2 (.int .u64 S)
  replace a:=a.s e;replace A:=A.s e;replace f:=aP f e (by omega);replace j:=e.box;clear e;generalize World.setCell M ⟨C.heap.size,2,none⟩ (.int .u64 S)=J at *;have k:=j.cell;have l:=j.frozen;have q:=A.cell
  go_upto_region 10 with (simp only[G])
  clear k l q
  have e:ae J (World.setCell J ⟨C.heap.size,1,none⟩ (.int .u64 T)) _ _ #[.bool s2,.int .u64 T,.int .u64 S,.int .i64 Z] _:=ae.at4 j 1 (.int .u64 T)
  replace a:=a.s e;replace f:=aP f e (by omega);replace j:=e.box;clear e;generalize World.setCell J ⟨C.heap.size,1,none⟩ (.int .u64 T)=wA at *;have L:=a.cell;have z:=a.frozen;have k:=j.cell;go_wp2;clear L z k;have e:=ae.mk4 a (.bool s2) (.int .u64 T) (.int .u64 S) (.int .i64 Z)
  exact bq (v:= .agg #[.bool s2,.int .u64 T,.int .u64 S,.int .i64 Z]) (by simp[results,results173,go_sem,e.box.cell]) rfl ⟨_,_,_,_,rfl,jT o3 o4 o1 o2 P.out.1 z1 z2 fun up=>by rw[<-HZ.out];exact(P.out.2 up (by omega)).2.2,(e.below f.out (by omega))⟩
theorem An{w:World}{s1 s2:Bool}{M1 M2 E1 E2 x y:Int}(hT:Tb w)(q1:Fq 1 s1 M1 E1 x)(q2:Fq 1 s2 M2 E2 y)(h:E1=E2)(hm:M1 < M2):Calls prog 173 #[VQ 1 s1 M1 E1,VQ 1 s2 M2 E2] w (Ge w fun up=>dj up x y):=by
 delta VQ
 obtain⟨a1,a2,a3,a4,_⟩:=gW q1;obtain⟨b1,b2,b3,b4,_⟩:=gW q2
 have HO:=ie (And.intro h hm)
 obtain⟨n,hn⟩:∃n:Nat,(n:Int)=E2-E1+1:=⟨(E2-E1+1).toNat,by omega⟩
 have bA:∀(S:Int) up,S=M2*9223372036854775808+an (s2 !=s1) (fj M1 n)->0<=S/\S < 340282366920938463463374607431768211456/\dM up (mk (an s2 S) (E2+1-64)).1 (mk (an s2 S) (E2+1-64)).2=dj up x y:=fun S up hS=>by
  obtain⟨u1,u2,u3⟩:=jb up q2 q1 (by omega) hn hS;refine⟨u1,u2,?_⟩
  rw[show E2+1-64=E2-63 by omega,u3]
  exact fy up
 have O:=ie bA;obtain⟨N,hN⟩:∃N,(n:Int)=N:=⟨_,rfl⟩;obtain⟨D,hD⟩:∃D,E2-E1=D:=⟨_,rfl⟩
 have n1:1<=n:=by omega
 have n3:n<=4000000:=by omega
 have HN:=ie hN
 have HD:=ie (show IntKind.i64.wrap (E2-E1)=D by rw[hD];exact IntWalk.i64_in _ (by omega))
 have bC:=ie (show IntKind.i64.wrap (D+1)=N by rw[show D+1=N by omega];exact IntWalk.i64_in _ (by omega))
 obtain⟨Y,hY⟩:∃Y,E1+N=Y:=⟨_,rfl⟩;have HY:=ie hY;obtain⟨Z,hZ⟩:∃Z,E2+1=Z:=⟨_,rfl⟩;have HZ:=ie hZ
 have z1: -2900000<=Z:=by omega
 have z2:Z<=2900000:=by omega
 have v1:fj M2 1=M2*9223372036854775808:=by
  unfold fj
  rw[if_pos (by decide)]
  rfl
 have bD:=ie v1
 have g1:9223372036854775808<=M2:=by omega
 have g2:M2 < 18446744073709551616:=by omega
 have g3: -2000000<=E2:=by omega
 have g4:E2<=2000000:=by omega
 have k1:9223372036854775808<=M1:=by omega
 have k2:M1 < 18446744073709551616:=by omega
 have k3: -2000000<=E1:=by omega
 have k4:E1<=2000000:=by omega
 clear hn hN hD hY hZ v1 bA h hm q1 q2 a1 a2 a3 a4 b1 b2 b3 b4
 go_enter func173,ntmps173
 go_upto_region 1 with fail
 generalize X:((w.alloc _).alloc _).alloc _=w1 at *;obtain⟨X2,X3,a,f⟩:=Bo.en3 X;replace hT:=hT.below f.out;clear X;have hE:=X2.cell;have hF:=X3.cell
 go_wp2_with fail
 refine(qm HO.out.1 (by have:=HO.out.2;omega)).mono ?_;rintro ee w2 ⟨rfl,B⟩;clear hE hF;refine aE ?_ a hT f B;clear a hT f B;intro a hT f
 go_upto_region 2 with fail
 clear X2 X3
 have bB:(World.alloc w2 (.cells #[.int .i64 1,.bool s2,.int .u64 M2,.int .i64 E2] 24)).heap.size=w2.heap.size+1:=by simp
 have bN:=a.lt;have BX:=ab w2 (.cells #[.int .i64 1,.bool s2,.int .u64 M2,.int .i64 E2] 24);replace a:=a.b BX;replace hT:=hT.b BX;replace f:=ie (bt f.out BX);have i:=Bo.new w2 #[.int .i64 1,.bool s2,.int .u64 M2,.int .i64 E2] 24
 generalize o:World.alloc w2 (.cells #[.int .i64 1,.bool s2,.int .u64 M2,.int .i64 E2] 24)=w3 at *;clear o;have I:=a.lt;have H:=i.lt;generalize o:w3.alloc _=w4 at *;obtain⟨m,E⟩:=Bo.nw o;clear o;refine dk ?_ a i hT f E;clear a i hT f E;intro a i hT f;rw[bB]at m H I;clear bB
 have p:=i.cell
 go_wp2_with fail
 refine(f8 (n:=1) (s:=s2) hT g1 g2 (by rfl) HZ.out g3 g4 (by decide) (by decide)).mono ?_;rintro ee C ⟨H1,L1,rfl,t,B⟩;clear p;refine dG ?_ a i m hT f B;clear a i m hT f B;intro a i m hT f;rw[bD.out]at t
 go_upto_region 3 with fail
 have gP:=a.lt;have gB:=i.lt;have gO:=m.lt;generalize o:C.alloc _=w6 at *;obtain⟨j,E⟩:=Bo.nw o;clear o;refine dG ?_ a i m hT f E;clear a i m hT f E;intro a i m hT f;have p:=i.cell;have u:=m.cell;have hd:=HD.out
 have bH:=bC.out
 go_wp2_with fail
 refine(f8 (s:=s1) hT k1 k2 HN.out HY.out k3 k4 n1 n3).mono ?_;rintro ee w7 ⟨H2,L2,rfl,p2,B⟩;clear p u;refine dG ?_ a i m j f B;clear a i m j f B;intro a i m j f;clear hd bH
 go_upto_region 5 with fail
 have hC:=a.lt;have gS:=i.lt;have hA:=m.lt;have hB:=j.lt;generalize o:w7.alloc _=M at *;obtain⟨A,E⟩:=Bo.nw o;clear o;refine dG ?_ a i m j f E;clear a i m j f E;intro a i m j f
 by_cases hs:s2=s1
 ·subst hs
  have r:(s2 !=s2)=false:=by cases s2 <;> rfl
  have g:=O.out (M2*9223372036854775808+fj M1 n);rw[r,bl]at g;have hb:=(g true rfl).2.1;obtain⟨S,c,T,d,Q,R,U,V,c0,c1,o1,o2,o3,o4,o5⟩:=gH t p2 hb
  have F:=fun W:World=>f7 W t.2.2.1 p2.2.2.1 (by decide) (by decide) Q R
  have G:=fun W:World=>f7 W t.1 p2.1 c0 c1 U V
  have P:=ie (And.intro o5 g)
  clear Q R U V t p2 hb g o5;have p:=i.cell;have u:=m.cell;have k:=j.cell;have l:=j.frozen;have q:=A.cell
  go_upto_region 7 with (simp only[F])
  clear p u k l q
  have e:ae M (World.setCell M ⟨C.heap.size,2,none⟩ (.int .u64 S)) _ _ #[.bool s2,.int .u64 H1,.int .u64 S,.int .i64 Z] _:=ae.at4 j 2 (.int .u64 S)
  replace a:=a.s e;replace i:=i.s e;replace m:=m.s e;replace A:=A.s e;replace f:=aP f e (by omega);replace j:=e.box;clear e;generalize World.setCell M ⟨C.heap.size,2,none⟩ (.int .u64 S)=J at *;have k:=j.cell;have l:=j.frozen;have q:=A.cell
  go_upto_region 10 with (simp only[G])
  clear k l q
  have e:ae J (World.setCell J ⟨C.heap.size,1,none⟩ (.int .u64 T)) _ _ #[.bool s2,.int .u64 T,.int .u64 S,.int .i64 Z] _:=ae.at4 j 1 (.int .u64 T)
  replace a:=a.s e;replace i:=i.s e;replace m:=m.s e;replace A:=A.s e;replace f:=aP f e (by omega);replace j:=e.box;clear e;generalize World.setCell J ⟨C.heap.size,1,none⟩ (.int .u64 T)=wA at *;have L:=a.cell;have z:=a.frozen;have k:=j.cell
  go_wp2;clear L z k;have e:=ae.mk4 a (.bool s2) (.int .u64 T) (.int .u64 S) (.int .i64 Z)
  exact bq (v:= .agg #[.bool s2,.int .u64 T,.int .u64 S,.int .i64 Z]) (by simp[results,results173,go_sem,e.box.cell]) rfl ⟨_,_,_,_,rfl,jT o3 o4 o1 o2 P.out.1 z1 z2 fun up=>by rw[<-HZ.out];exact(P.out.2 up (by first | rfl | trivial)).2.2,(e.below f.out (by omega))⟩
 ·have r:(s2 !=s1)=true:=by cases s2 <;> cases s1 <;> first | rfl | exact absurd rfl hs
  have hG:(s2==s1)=false:=by cases s2 <;> cases s1 <;> first | rfl | exact absurd rfl hs
  have g:=O.out (M2*9223372036854775808-fj M1 n);rw[r,bn]at g;have hb:=(g true (by omega)).1;obtain⟨S,c,T,d,Q,R,U,V,c0,c1,o1,o2,o3,o4,o5⟩:=gV t p2 hb
  have F:=fun W:World=>f9 W t.2.2.1 t.2.2.2.1 p2.2.2.1 p2.2.2.2.1 (by decide) (by decide) Q R
  have G:=fun W:World=>f9 W t.1 t.2.1 p2.1 p2.2.1 c0 c1 U V
  have P:=ie (And.intro o5 g)
  clear Q R U V t p2 hb g o5;have p:=i.cell;have u:=m.cell;have k:=j.cell;have l:=j.frozen;have q:=A.cell
  go_upto_region 9 with (simp only[F])
  clear p u k l q
  have e:ae M (World.setCell M ⟨C.heap.size,2,none⟩ (.int .u64 S)) _ _ #[.bool s2,.int .u64 H1,.int .u64 S,.int .i64 Z] _:=ae.at4 j 2 (.int .u64 S)
  replace a:=a.s e;replace A:=A.s e;replace f:=aP f e (by omega);replace j:=e.box;clear e;generalize World.setCell M ⟨C.heap.size,2,none⟩ (.int .u64 S)=J at *;have k:=j.cell;have l:=j.frozen;have q:=A.cell
  go_upto_region 10 with (simp only[G])
  clear k l q
  have e:ae J (World.setCell J ⟨C.heap.size,1,none⟩ (.int .u64 T)) _ _ #[.bool s2,.int .u64 T,.int .u64 S,.int .i64 Z] _:=ae.at4 j 1 (.int .u64 T)
  replace a:=a.s e;replace f:=aP f e (by omega);replace j:=e.box;clear e;generalize World.setCell J ⟨C.heap.size,1,none⟩ (.int .u64 T)=wA at *;have L:=a.cell;have z:=a.frozen;have k:=j.cell;go_wp2;clear L z k;have e:=ae.mk4 a (.bool s2) (.int .u64 T) (.int .u64 S) (.int .i64 Z)
  exact bq (v:= .agg #[.bool s2,.int .u64 T,.int .u64 S,.int .i64 Z]) (by simp[results,results173,go_sem,e.box.cell]) rfl ⟨_,_,_,_,rfl,jT o3 o4 o1 o2 P.out.1 z1 z2 fun up=>by rw[<-HZ.out];exact(P.out.2 up (by omega)).2.2,(e.below f.out (by omega))⟩
theorem Am{w:World}{s1 s2:Bool}{M1 M2 E1 E2 x y:Int}(hT:Tb w)(q1:Fq 1 s1 M1 E1 x)(q2:Fq 1 s2 M2 E2 y)(h:E1=E2)(hm:¬M1 < M2):Calls prog 173 #[VQ 1 s1 M1 E1,VQ 1 s2 M2 E2] w (Ge w fun up=>dj up x y):=by
 delta VQ
 obtain⟨a1,a2,a3,a4,_⟩:=gW q1;obtain⟨b1,b2,b3,b4,_⟩:=gW q2
 have HO:=ie (And.intro h hm)
 obtain⟨n,hn⟩:∃n:Nat,(n:Int)=E1-E2+1:=⟨(E1-E2+1).toNat,by omega⟩
 have bA:∀(S:Int) up,S=M1*9223372036854775808+an (s1 !=s2) (fj M2 n)->0<=S/\S < 340282366920938463463374607431768211456/\dM up (mk (an s1 S) (E1+1-64)).1 (mk (an s1 S) (E1+1-64)).2=dj up x y:=fun S up hS=>by
  obtain⟨u1,u2,u3⟩:=jb up q1 q2 (by omega) hn hS;refine⟨u1,u2,?_⟩
  rw[show E1+1-64=E1-63 by omega,u3]
 have O:=ie bA;obtain⟨N,hN⟩:∃N,(n:Int)=N:=⟨_,rfl⟩;obtain⟨D,hD⟩:∃D,E1-E2=D:=⟨_,rfl⟩
 have n1:1<=n:=by omega
 have n3:n<=4000000:=by omega
 have HN:=ie hN
 have HD:=ie (show IntKind.i64.wrap (E1-E2)=D by rw[hD];exact IntWalk.i64_in _ (by omega))
 have bC:=ie (show IntKind.i64.wrap (D+1)=N by rw[show D+1=N by omega];exact IntWalk.i64_in _ (by omega))
 obtain⟨Y,hY⟩:∃Y,E2+N=Y:=⟨_,rfl⟩;have HY:=ie hY;obtain⟨Z,hZ⟩:∃Z,E1+1=Z:=⟨_,rfl⟩;have HZ:=ie hZ
 have z1: -2900000<=Z:=by omega
 have z2:Z<=2900000:=by omega
 have v1:fj M1 1=M1*9223372036854775808:=by
  unfold fj
  rw[if_pos (by decide)]
  rfl
 have bD:=ie v1
 have g1:9223372036854775808<=M1:=by omega
 have g2:M1 < 18446744073709551616:=by omega
 have g3: -2000000<=E1:=by omega
 have g4:E1<=2000000:=by omega
 have k1:9223372036854775808<=M2:=by omega
 have k2:M2 < 18446744073709551616:=by omega
 have k3: -2000000<=E2:=by omega
 have k4:E2<=2000000:=by omega
 clear hn hN hD hY hZ v1 bA h hm q1 q2 a1 a2 a3 a4 b1 b2 b3 b4
 go_enter func173,ntmps173
 go_upto_region 1 with fail
 generalize X:((w.alloc _).alloc _).alloc _=w1 at *;obtain⟨X2,X3,a,f⟩:=Bo.en3 X;replace hT:=hT.below f.out;clear X;have hE:=X2.cell;have hF:=X3.cell
 go_wp2_with fail
 refine(ql HO.out.1 (by have:=HO.out.2;omega)).mono ?_;rintro ee w2 ⟨rfl,B⟩;clear hE hF;refine aE ?_ a hT f B;clear a hT f B;intro a hT f
 go_upto_region 2 with fail
 clear X2 X3
 have bB:(World.alloc w2 (.cells #[.int .i64 1,.bool s1,.int .u64 M1,.int .i64 E1] 24)).heap.size=w2.heap.size+1:=by simp
 have bN:=a.lt;have BX:=ab w2 (.cells #[.int .i64 1,.bool s1,.int .u64 M1,.int .i64 E1] 24);replace a:=a.b BX;replace hT:=hT.b BX;replace f:=ie (bt f.out BX);have i:=Bo.new w2 #[.int .i64 1,.bool s1,.int .u64 M1,.int .i64 E1] 24
 generalize o:World.alloc w2 (.cells #[.int .i64 1,.bool s1,.int .u64 M1,.int .i64 E1] 24)=w3 at *;clear o;have I:=a.lt;have H:=i.lt;generalize o:w3.alloc _=w4 at *;obtain⟨m,E⟩:=Bo.nw o;clear o;refine dk ?_ a i hT f E;clear a i hT f E;intro a i hT f;rw[bB]at m H I;clear bB
 have p:=i.cell
 go_wp2_with fail
 refine(f8 (n:=1) (s:=s1) hT g1 g2 (by rfl) HZ.out g3 g4 (by decide) (by decide)).mono ?_;rintro ee C ⟨H1,L1,rfl,t,B⟩;clear p;refine dG ?_ a i m hT f B;clear a i m hT f B;intro a i m hT f;rw[bD.out]at t
 go_upto_region 3 with fail
 have gP:=a.lt;have gB:=i.lt;have gO:=m.lt;generalize o:C.alloc _=w6 at *;obtain⟨j,E⟩:=Bo.nw o;clear o;refine dG ?_ a i m hT f E;clear a i m hT f E;intro a i m hT f;have p:=i.cell;have u:=m.cell;have hd:=HD.out
 have bH:=bC.out
 go_wp2_with fail
 refine(f8 (s:=s2) hT k1 k2 HN.out HY.out k3 k4 n1 n3).mono ?_;rintro ee w7 ⟨H2,L2,rfl,p2,B⟩;clear p u;refine dG ?_ a i m j f B;clear a i m j f B;intro a i m j f;clear hd bH
 go_upto_region 5 with fail
 have hC:=a.lt;have gS:=i.lt;have hA:=m.lt;have hB:=j.lt;generalize o:w7.alloc _=M at *;obtain⟨A,E⟩:=Bo.nw o;clear o;refine dG ?_ a i m j f E;clear a i m j f E;intro a i m j f
 by_cases hs:s1=s2
 ·subst hs
  have r:(s1 !=s1)=false:=by cases s1 <;> rfl
  have g:=O.out (M1*9223372036854775808+fj M2 n);rw[r,bl]at g;have hb:=(g true rfl).2.1;obtain⟨S,c,T,d,Q,R,U,V,c0,c1,o1,o2,o3,o4,o5⟩:=gH t p2 hb
  have F:=fun W:World=>f7 W t.2.2.1 p2.2.2.1 (by decide) (by decide) Q R
  have G:=fun W:World=>f7 W t.1 p2.1 c0 c1 U V
  have P:=ie (And.intro o5 g)
  clear Q R U V t p2 hb g o5;have p:=i.cell;have u:=m.cell;have k:=j.cell;have l:=j.frozen;have q:=A.cell
  go_upto_region 7 with (simp only[F])
  clear p u k l q
  have e:ae M (World.setCell M ⟨C.heap.size,2,none⟩ (.int .u64 S)) _ _ #[.bool s1,.int .u64 H1,.int .u64 S,.int .i64 Z] _:=ae.at4 j 2 (.int .u64 S)
  replace a:=a.s e;replace i:=i.s e;replace m:=m.s e;replace A:=A.s e;replace f:=aP f e (by omega);replace j:=e.box;clear e;generalize World.setCell M ⟨C.heap.size,2,none⟩ (.int .u64 S)=J at *;have k:=j.cell;have l:=j.frozen;have q:=A.cell
  go_upto_region 10 with (simp only[G])
  clear k l q
  have e:ae J (World.setCell J ⟨C.heap.size,1,none⟩ (.int .u64 T)) _ _ #[.bool s1,.int .u64 T,.int .u64 S,.int .i64 Z] _:=ae.at4 j 1 (.int .u64 T)
  replace a:=a.s e;replace i:=i.s e;replace m:=m.s e;replace A:=A.s e;replace f:=aP f e (by omega);replace j:=e.box;clear e;generalize World.setCell J ⟨C.heap.size,1,none⟩ (.int .u64 T)=wA at *;have L:=a.cell;have z:=a.frozen;have k:=j.cell
  go_wp2;clear L z k;have e:=ae.mk4 a (.bool s1) (.int .u64 T) (.int .u64 S) (.int .i64 Z)
  exact bq (v:= .agg #[.bool s1,.int .u64 T,.int .u64 S,.int .i64 Z]) (by simp[results,results173,go_sem,e.box.cell]) rfl ⟨_,_,_,_,rfl,jT o3 o4 o1 o2 P.out.1 z1 z2 fun up=>by rw[<-HZ.out];exact(P.out.2 up (by first | rfl | trivial)).2.2,(e.below f.out (by omega))⟩
 ·have r:(s1 !=s2)=true:=by cases s1 <;> cases s2 <;> first | rfl | exact absurd rfl hs
  have hG:(s1==s2)=false:=by cases s1 <;> cases s2 <;> first | rfl | exact absurd rfl hs
  have g:=O.out (M1*9223372036854775808-fj M2 n);rw[r,bn]at g;have hb:=(g true (by omega)).1;obtain⟨S,c,T,d,Q,R,U,V,c0,c1,o1,o2,o3,o4,o5⟩:=gV t p2 hb
  have F:=fun W:World=>f9 W t.2.2.1 t.2.2.2.1 p2.2.2.1 p2.2.2.2.1 (by decide) (by decide) Q R
  have G:=fun W:World=>f9 W t.1 t.2.1 p2.1 p2.2.1 c0 c1 U V
  have P:=ie (And.intro o5 g)
  clear Q R U V t p2 hb g o5;have p:=i.cell;have u:=m.cell;have k:=j.cell;have l:=j.frozen;have q:=A.cell
  go_upto_region 9 with (simp only[F])
  clear p u k l q
  have e:ae M (World.setCell M ⟨C.heap.size,2,none⟩ (.int .u64 S)) _ _ #[.bool s1,.int .u64 H1,.int .u64 S,.int .i64 Z] _:=ae.at4 j 2 (.int .u64 S)
  replace a:=a.s e;replace A:=A.s e;replace f:=aP f e (by omega);replace j:=e.box;clear e;generalize World.setCell M ⟨C.heap.size,2,none⟩ (.int .u64 S)=J at *;have k:=j.cell;have l:=j.frozen;have q:=A.cell
  go_upto_region 10 with (simp only[G])
  clear k l q
  have e:ae J (World.setCell J ⟨C.heap.size,1,none⟩ (.int .u64 T)) _ _ #[.bool s1,.int .u64 T,.int .u64 S,.int .i64 Z] _:=ae.at4 j 1 (.int .u64 T)
  replace a:=a.s e;replace f:=aP f e (by omega);replace j:=e.box;clear e;generalize World.setCell J ⟨C.heap.size,1,none⟩ (.int .u64 T)=wA at *;have L:=a.cell;have z:=a.frozen;have k:=j.cell;go_wp2;clear L z k;have e:=ae.mk4 a (.bool s1) (.int .u64 T) (.int .u64 S) (.int .i64 Z)
  exact bq (v:= .agg #[.bool s1,.int .u64 T,.int .u64 S,.int .i64 Z]) (by simp[results,results173,go_sem,e.box.cell]) rfl ⟨_,_,_,_,rfl,jT o3 o4 o1 o2 P.out.1 z1 z2 fun up=>by rw[<-HZ.out];exact(P.out.2 up (by omega)).2.2,(e.below f.out (by omega))⟩
theorem FF{w:World}{s1 s2:Bool}{M1 M2 E1 E2 x y:Int}(hT:Tb w)(q1:Fq 1 s1 M1 E1 x)(q2:Fq 1 s2 M2 E2 y)(h:E2 < E1):Calls prog 173 #[VQ 1 s1 M1 E1,VQ 1 s2 M2 E2] w (Ge w fun up=>dj up x y):=by
 delta VQ
 obtain⟨a1,a2,a3,a4,_⟩:=gW q1;obtain⟨b1,b2,b3,b4,_⟩:=gW q2;have HO:=ie (h);obtain⟨n,hn⟩:∃n:Nat,(n:Int)=E1-E2+1:=⟨(E1-E2+1).toNat,by omega⟩
 have bA:∀(S:Int) up,S=M1*9223372036854775808+an (s1 !=s2) (fj M2 n)->0<=S/\S < 340282366920938463463374607431768211456/\dM up (mk (an s1 S) (E1+1-64)).1 (mk (an s1 S) (E1+1-64)).2=dj up x y:=fun S up hS=>by
  obtain⟨u1,u2,u3⟩:=jb up q1 q2 (by omega) hn hS;refine⟨u1,u2,?_⟩
  rw[show E1+1-64=E1-63 by omega,u3]
 have O:=ie bA;obtain⟨N,hN⟩:∃N,(n:Int)=N:=⟨_,rfl⟩;obtain⟨D,hD⟩:∃D,E1-E2=D:=⟨_,rfl⟩
 have n1:1<=n:=by omega
 have n3:n<=4000000:=by omega
 have HN:=ie hN
 have HD:=ie (show IntKind.i64.wrap (E1-E2)=D by rw[hD];exact IntWalk.i64_in _ (by omega))
 have bC:=ie (show IntKind.i64.wrap (D+1)=N by rw[show D+1=N by omega];exact IntWalk.i64_in _ (by omega))
 obtain⟨Y,hY⟩:∃Y,E2+N=Y:=⟨_,rfl⟩;have HY:=ie hY;obtain⟨Z,hZ⟩:∃Z,E1+1=Z:=⟨_,rfl⟩;have HZ:=ie hZ
 have z1: -2900000<=Z:=by omega
 have z2:Z<=2900000:=by omega
 have v1:fj M1 1=M1*9223372036854775808:=by
  unfold fj
  rw[if_pos (by decide)]
  rfl
 have bD:=ie v1
 have g1:9223372036854775808<=M1:=by omega
 have g2:M1 < 18446744073709551616:=by omega
 have g3: -2000000<=E1:=by omega
 have g4:E1<=2000000:=by omega
 have k1:9223372036854775808<=M2:=by omega
 have k2:M2 < 18446744073709551616:=by omega
 have k3: -2000000<=E2:=by omega
 have k4:E2<=2000000:=by omega
 clear hn hN hD hY hZ v1 bA h q1 q2 a1 a2 a3 a4 b1 b2 b3 b4
 go_enter func173,ntmps173
 go_upto_region 1 with fail
 generalize X:((w.alloc _).alloc _).alloc _=w1 at *;obtain⟨X2,X3,a,f⟩:=Bo.en3 X;replace hT:=hT.below f.out;clear X;have hE:=X2.cell;have hF:=X3.cell
 go_wp2_with fail
 refine(zh HO.out).mono ?_;rintro ee w2 ⟨rfl,B⟩;clear hE hF;refine aE ?_ a hT f B;clear a hT f B;intro a hT f
 go_upto_region 2 with fail
 clear X2 X3
 have bB:(World.alloc w2 (.cells #[.int .i64 1,.bool s1,.int .u64 M1,.int .i64 E1] 24)).heap.size=w2.heap.size+1:=by simp
 have bN:=a.lt;have BX:=ab w2 (.cells #[.int .i64 1,.bool s1,.int .u64 M1,.int .i64 E1] 24);replace a:=a.b BX;replace hT:=hT.b BX;replace f:=ie (bt f.out BX);have i:=Bo.new w2 #[.int .i64 1,.bool s1,.int .u64 M1,.int .i64 E1] 24
 generalize o:World.alloc w2 (.cells #[.int .i64 1,.bool s1,.int .u64 M1,.int .i64 E1] 24)=w3 at *;clear o;have I:=a.lt;have H:=i.lt;generalize o:w3.alloc _=w4 at *;obtain⟨m,E⟩:=Bo.nw o;clear o;refine dk ?_ a i hT f E;clear a i hT f E;intro a i hT f;rw[bB]at m H I;clear bB
 have p:=i.cell
 go_wp2_with fail
 refine(f8 (n:=1) (s:=s1) hT g1 g2 (by rfl) HZ.out g3 g4 (by decide) (by decide)).mono ?_;rintro ee C ⟨H1,L1,rfl,t,B⟩;clear p;refine dG ?_ a i m hT f B;clear a i m hT f B;intro a i m hT f;rw[bD.out]at t
 go_upto_region 3 with fail
 have gP:=a.lt;have gB:=i.lt;have gO:=m.lt;generalize o:C.alloc _=w6 at *;obtain⟨j,E⟩:=Bo.nw o;clear o;refine dG ?_ a i m hT f E;clear a i m hT f E;intro a i m hT f;have p:=i.cell;have u:=m.cell;have hd:=HD.out
 have bH:=bC.out
 go_wp2_with fail
 refine(f8 (s:=s2) hT k1 k2 HN.out HY.out k3 k4 n1 n3).mono ?_;rintro ee w7 ⟨H2,L2,rfl,p2,B⟩;clear p u;refine dG ?_ a i m j f B;clear a i m j f B;intro a i m j f;clear hd bH
 go_upto_region 5 with fail
 have hC:=a.lt;have gS:=i.lt;have hA:=m.lt;have hB:=j.lt;generalize o:w7.alloc _=M at *;obtain⟨A,E⟩:=Bo.nw o;clear o;refine dG ?_ a i m j f E;clear a i m j f E;intro a i m j f
 by_cases hs:s1=s2
 ·subst hs
  have r:(s1 !=s1)=false:=by cases s1 <;> rfl
  have g:=O.out (M1*9223372036854775808+fj M2 n);rw[r,bl]at g;have hb:=(g true rfl).2.1;obtain⟨S,c,T,d,Q,R,U,V,c0,c1,o1,o2,o3,o4,o5⟩:=gH t p2 hb
  have F:=fun W:World=>f7 W t.2.2.1 p2.2.2.1 (by decide) (by decide) Q R
  have G:=fun W:World=>f7 W t.1 p2.1 c0 c1 U V
  have P:=ie (And.intro o5 g)
  clear Q R U V t p2 hb g o5;have p:=i.cell;have u:=m.cell;have k:=j.cell;have l:=j.frozen;have q:=A.cell
  go_upto_region 7 with (simp only[F])
  clear p u k l q
  have e:ae M (World.setCell M ⟨C.heap.size,2,none⟩ (.int .u64 S)) _ _ #[.bool s1,.int .u64 H1,.int .u64 S,.int .i64 Z] _:=ae.at4 j 2 (.int .u64 S)
  replace a:=a.s e;replace i:=i.s e;replace m:=m.s e;replace A:=A.s e;replace f:=aP f e (by omega);replace j:=e.box;clear e;generalize World.setCell M ⟨C.heap.size,2,none⟩ (.int .u64 S)=J at *;have k:=j.cell;have l:=j.frozen;have q:=A.cell
  go_upto_region 10 with (simp only[G])
  clear k l q
  have e:ae J (World.setCell J ⟨C.heap.size,1,none⟩ (.int .u64 T)) _ _ #[.bool s1,.int .u64 T,.int .u64 S,.int .i64 Z] _:=ae.at4 j 1 (.int .u64 T)
  replace a:=a.s e;replace i:=i.s e;replace m:=m.s e;replace A:=A.s e;replace f:=aP f e (by omega);replace j:=e.box;clear e;generalize World.setCell J ⟨C.heap.size,1,none⟩ (.int .u64 T)=wA at *;have L:=a.cell;have z:=a.frozen;have k:=j.cell
  go_wp2;clear L z k;have e:=ae.mk4 a (.bool s1) (.int .u64 T) (.int .u64 S) (.int .i64 Z)
  exact bq (v:= .agg #[.bool s1,.int .u64 T,.int .u64 S,.int .i64 Z]) (by simp[results,results173,go_sem,e.box.cell]) rfl ⟨_,_,_,_,rfl,jT o3 o4 o1 o2 P.out.1 z1 z2 fun up=>by rw[<-HZ.out];exact(P.out.2 up (by first | rfl | trivial)).2.2,(e.below f.out (by omega))⟩
 ·have r:(s1 !=s2)=true:=by cases s1 <;> cases s2 <;> first | rfl | exact absurd rfl hs
  have hG:(s1==s2)=false:=by cases s1 <;> cases s2 <;> first | rfl | exact absurd rfl hs
  have g:=O.out (M1*9223372036854775808-fj M2 n);rw[r,bn]at g;have hb:=(g true (by omega)).1;obtain⟨S,c,T,d,Q,R,U,V,c0,c1,o1,o2,o3,o4,o5⟩:=gV t p2 hb
  have F:=fun W:World=>f9 W t.2.2.1 t.2.2.2.1 p2.2.2.1 p2.2.2.2.1 (by decide) (by decide) Q R
  have G:=fun W:World=>f9 W t.1 t.2.1 p2.1 p2.2.1 c0 c1 U V
  have P:=ie (And.intro o5 g)
  clear Q R U V t p2 hb g o5;have p:=i.cell;have u:=m.cell;have k:=j.cell;have l:=j.frozen;have q:=A.cell
  go_upto_region 9 with (simp only[F])
  clear p u k l q
  have e:ae M (World.setCell M ⟨C.heap.size,2,none⟩ (.int .u64 S)) _ _ #[.bool s1,.int .u64 H1,.int .u64 S,.int .i64 Z] _:=ae.at4 j 2 (.int .u64 S)
  replace a:=a.s e;replace A:=A.s e;replace f:=aP f e (by omega);replace j:=e.box;clear e;generalize World.setCell M ⟨C.heap.size,2,none⟩ (.int .u64 S)=J at *;have k:=j.cell;have l:=j.frozen;have q:=A.cell
  go_upto_region 10 with (simp only[G])
  clear k l q
  have e:ae J (World.setCell J ⟨C.heap.size,1,none⟩ (.int .u64 T)) _ _ #[.bool s1,.int .u64 T,.int .u64 S,.int .i64 Z] _:=ae.at4 j 1 (.int .u64 T)
  replace a:=a.s e;replace f:=aP f e (by omega);replace j:=e.box;clear e;generalize World.setCell J ⟨C.heap.size,1,none⟩ (.int .u64 T)=wA at *;have L:=a.cell;have z:=a.frozen;have k:=j.cell;go_wp2;clear L z k;have e:=ae.mk4 a (.bool s1) (.int .u64 T) (.int .u64 S) (.int .i64 Z)
  exact bq (v:= .agg #[.bool s1,.int .u64 T,.int .u64 S,.int .i64 Z]) (by simp[results,results173,go_sem,e.box.cell]) rfl ⟨_,_,_,_,rfl,jT o3 o4 o1 o2 P.out.1 z1 z2 fun up=>by rw[<-HZ.out];exact(P.out.2 up (by omega)).2.2,(e.below f.out (by omega))⟩
theorem Gn{w:World}{s1 s2:Bool}{M1 M2 E1 E2 x y:Int}(hT:Tb w)(q1:Fq 1 s1 M1 E1 x)(q2:Fq 1 s2 M2 E2 y):Calls prog 173 #[VQ 1 s1 M1 E1,VQ 1 s2 M2 E2] w (Ge w fun up=>dj up x y):=by
 delta VQ
 rcases Int.lt_trichotomy E1 E2 with h | h | h
 ·exact FG hT q1 q2 h
 ·by_cases hm:M1 < M2
  ·exact An hT q1 q2 h hm
  ·exact Am hT q1 q2 h hm
 ·exact FF hT q1 q2 h
