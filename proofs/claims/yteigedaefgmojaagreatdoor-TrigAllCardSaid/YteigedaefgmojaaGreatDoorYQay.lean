/-
 Contracts that the proof rests on.
-/
import Derived.Test.YteigedaefgmojaaGreatDoorYQax
namespace Go.Proofs.YteigedaefgmojaaGreatDoor
open Go.Proofs.Tryz
set_option maxHeartbeats 8000000
open Go.RowKit
set_option linter.unusedVariables false
set_option linter.unusedSimpArgs false
set_option maxRecDepth 100000
theorem ik{w:World}:Calls prog 153 #[] w (W1 w 8 SC):=by
 go_enter func153,ntmps153
 go_upto_region 1 with fail
 generalize e:w.alloc _=w1 at *;obtain⟨c,d⟩:=Bo.en1 e;clear e
 go_wp2_with fail
 refine(Du (a:=1) 192 ⟨_,[1],iT w1,rfl⟩ (by decide) (by decide)).mono ?_;rintro j n ⟨A2,n2,c2,rfl,p2,l,B⟩;replace B:=bt (ab _ (.cells #[.int .u32 1] 103)) B;replace c:=c.b B;replace d:=aj d B;clear B
 go_wp2_with fail
 refine(ic false p2.rd).mono ?_;rintro j k ⟨s3,A3,n3,c3,rfl,f,m,B⟩;replace c:=c.b B;replace d:=aj d B;clear B;clear p2
 replace f:Wn k s3 A3 n3 c3 SC:=by rw[show SC=sg false (1*2^192) by decide];exact f
 have i:=c.cell;have g:=c.frozen;go_wp2;clear i g;have h:=ae.t2 c s3 A3 n3 c3;replace f:=f.s h;exact bq (v:= .agg #[.bool s3,.slice A3 n3 c3]) (by simp[results,results153,go_sem,h.box.cell]) rfl ⟨s3,A3,n3,c3,rfl,f,by omega,(h.below d.out (by omega))⟩
theorem El{w:World}{A:Option Addr}{n c K:Nat}{zs:List Int}{y q:Int}(h:Wl w A n c K zs)(hK:1+n*K<=1000)(hy:tZ zs=y)(h0:y≠0)(hq:SC.fdiv y=q):Calls prog 238 #[.slice A n c] w (W1 w 2000 q):=by
 go_enter func238,ntmps238
 go_upto_region 1 with fail
 generalize o:w.alloc _=w1 at *;obtain⟨a,d⟩:=Bo.en1 o;replace h:=h.below d.out;clear o
 go_wp2_with fail
 refine(ik).mono ?_;rintro G Q ⟨s2,A2,n2,c2,rfl,p2,M,B⟩;refine aE ?_ a h d B;clear a h d B;intro a h d
 go_wp2_with fail
 refine(jp h (by omega) hy).mono ?_;rintro G R ⟨s3,A3,n3,c3,rfl,H,N,B⟩;refine aE ?_ a p2 d B;clear a p2 d B;intro a p2 d;clear h
 go_wp2_with fail
 refine(F0 p2.wr H.wr (by omega) (by omega) h0 hq rfl).mono ?_;rintro G p ⟨l,i,k,j,s9,A9,n9,c9,rfl,g,J,O,P,B⟩;replace a:=a.b B;replace d:=aj d B;clear B;clear p2 H
 go_upto_region 2 with fail
 have f:(World.alloc p (.cells #[.bool l,.slice i k j] 43)).heap.size=p.heap.size+1:=by simp
 have x:=a.lt;have t:=ab p (.cells #[.bool l,.slice i k j] 43);replace a:=a.b t;replace g:=g.b t;replace d:=ie (bt d.out t);have m:=Bo.new p #[.bool l,.slice i k j] 43;generalize e:World.alloc p (.cells #[.bool l,.slice i k j] 43)=L at *;clear e
 have C:=a.lt;have z:=m.lt;generalize e:L.alloc _=S at *;obtain⟨I,F⟩:=Bo.nw e;clear e;refine dk ?_ a m g d F;clear a m g d F;intro a m g d;rw[f]at I;clear f;clear J;have E:=a.cell;have r:=a.frozen;have D:=m.cell;go_wp2;clear E r D
 have u:=ae.t2 a l i k j;replace g:=g.s u;exact bq (v:= .agg #[.bool l,.slice i k j]) (by simp[results,results238,go_sem,u.box.cell]) rfl ⟨l,i,k,j,rfl,g,by omega,(u.below d.out (by omega))⟩
def IW (w:World)(gp go:Nat)(T P O:Int)(e:Ending)(w':World):Prop:=∃s A n c s6 A6 n6 c6,e= .returned (.agg #[.bool s,.slice A n c])/\Wn w' s A n c T/\n<=8/\Bo w' gp #[.bool s6,.slice A6 n6 c6] 43/\Wn w' s6 A6 n6 c6 P/\n6<=10/\Bo w' go #[.int .i64 O] 3/\Duo gp go w w'
theorem ww{w:World}{gp go gb k:Nat}{s6 s7:Bool}{A6 A7:Option Addr}{n6 c6 n7 c7:Nat}{p n T:Int}(XP:Bo w gp #[.bool s6,.slice A6 n6 c6] 43)(XO:Bo w go #[.int .i64 (2*(k:Int)+1)] 3)(XB:Bo w gb #[.bool s7,.slice A7 n7 c7] 43)(p6:Wn w s6 A6 n6 c6 p)(p7:Wn w s7 A7 n7 c7 n)(k6:n6<=10)(k7:n7<=2)(hpo:gp≠go)(hpb:gp≠gb)(hob:go≠gb)
  (hk:k<=1000) (hp:0 < p) (hp2:p<=SC*1000000) (h1:2<=n) (h2:n<=1000) (hT:SC.fdiv (p*(2*(k:Int)+1))=T):
  Calls prog 237 #[.pointer (some ⟨gp,0,none⟩),.pointer (some ⟨go,0,none⟩),.pointer (some ⟨gb,0,none⟩)] w (IW w gp go T (p*(n*n)) (2*(k:Int)+3)):=by
 have HT:=ie hT
 have HY:Hid (tZ [p,2*(k:Int)+1]=p*(2*(k:Int)+1)):=ie (by show 1*p*(2*(k:Int)+1)=_;rw[Int.one_mul])
 have H0:Hid (p*(2*(k:Int)+1)≠0):=ie (by have:=Int.mul_pos hp (show (0:Int) < 2*(k:Int)+1 by omega);omega)
 have HM:Hid (tZ [p,n,n]=p*(n*n)):=ie (by show 1*p*n*n=_;rw[Int.one_mul,Int.mul_assoc])
 have O:=ie (Dl hp hT);have N:=ie (zt hp hp2 h1 h2)
 have P:Hid (IntKind.i64.wrap (2*(k:Int)+1+2)=2*(k:Int)+3):=ie (by rw[show 2*(k:Int)+1+2=2*(k:Int)+3 by omega];exact IntWalk.i64_in _ (by omega))
 have Q:Hid (wrap64 (2*(k:Int)+1+2)=2*(k:Int)+3):=ie (by rw[show 2*(k:Int)+1+2=2*(k:Int)+3 by omega];exact IntWalk.wrap64_in _ (by omega))
 have HK:Hid (2*(k:Int)+1<=3000):=ie (by omega)
 have G1:=XP.lt;have G2:=XO.lt;have G3:=XB.lt;clear hT hp hp2 h1 h2
 go_enter func237,ntmps237
 go_upto_region 1 with fail
 have h:=Bo.newAt w (g:=w.heap.size) rfl #[.bool false,.slice none 0 0] 43
 have j:Hid (Duo gp go w (World.alloc w (.cells #[.bool false,.slice none 0 0] 43))):=ie (.of (ab w (.cells #[.bool false,.slice none 0 0] 43)))
 replace XP:=XP.below (ab w (.cells #[.bool false,.slice none 0 0] 43));replace XO:=XO.below (ab w (.cells #[.bool false,.slice none 0 0] 43));replace XB:=XB.below (ab w (.cells #[.bool false,.slice none 0 0] 43));replace p6:=p6.below (ab w (.cells #[.bool false,.slice none 0 0] 43));replace p7:=p7.below (ab w (.cells #[.bool false,.slice none 0 0] 43));generalize V:World.alloc w (.cells #[.bool false,.slice none 0 0] 43)=w1 at *
 clear V;have gB:=XP.lt;have bN:=XO.lt;have bH:=XB.lt;have gO:=h.lt;refine aV [0,1,2,3,4,5] [6,7,8,9,10,5,0] [[],[],[1],[0,2],[3],[],[]] 7 1 [Jo.Fact.eq (.agg #[.bool s6,.slice A6 n6 c6]),Jo.Fact.eq (.int .i64 (2*(k:Int)+1)),Jo.Fact.wn (2*(k:Int)+1) (2),Jo.Fact.wl 10 2 [p,2*(k:Int)+1],Jo.Fact.wn (T) (8),Jo.Fact.bo w1.heap.size #[.bool false,.slice none 0 0] 43,Jo.Fact.any] ?_ ?_
 ·refine jm ?_ ?_
  ·rintro F e K i;have t:=(XP.b e).cell;go_simp;exact i.out _ _ rfl (br _ _)
  refine jm ?_ ?_
  ·rintro F e K i;have x:=(XO.b e).a 0 (.int .i64 (2*(k:Int)+1)) rfl;go_simp;exact i.out _ _ rfl (br _ _)
  refine jm ?_ ?_
  ·rintro F e _ rfl K i;go_simp;exact Jo.w1 (dU _ _ (by omega) (by omega)) i.out
  refine jm ?_ ?_
  ·rintro F e _ rfl _ ⟨bA,L,Z,R,rfl,E,Y⟩ K i;go_simp;exact i.out _ _ ⟨_,_,rfl,Wl.lit2 rfl (p6.b e).wr E.wr (by omega) (by omega)⟩ (ab _ _)
  refine jm ?_ ?_
  ·rintro F e _ ⟨gP,gS,rfl,U⟩ K i;go_simp;refine(El U (by decide) HY.out H0.out HT.out).mono ?_;rintro ee wk ⟨r,m,q,o,rfl,d,A,B⟩;exact i.out _ _ ⟨r,m,q,o,rfl,d,(d.fits (FB O.out))⟩ B
  refine jm ?_ ?_
  ·rintro F e K i;go_simp;exact i.out _ _ ⟨_,rfl,e.size,Bo.new _ _ _⟩ (ab _ _)
  exact jo
 rintro w2 e _ rfl _ rfl _ ⟨bA,L,Z,R,rfl,E,Y⟩ _ ⟨_,_,rfl,_⟩ _ ⟨r,m,q,o,rfl,d,A⟩ _ ⟨g8,rfl,hA,l⟩ -;simp only[Jo.z];replace XP:=XP.b e;replace XO:=XO.b e;replace XB:=XB.b e;replace h:=h.b e;replace p6:=p6.b e;replace p7:=p7.b e;replace j:=ie (j.out.mv e);have y:=l.cell;have G:=l.frozen
 refine jn 6 fun K i=>?_
 go_simp;refine i.out _ _ ?_;clear i K y G;generalize u:(w2.setCell _ _).setCell _ _=w3 at *;have c:=ae.of2 l u;replace XP:=XP.s c;replace XO:=XO.s c;replace XB:=XB.s c;replace h:=h.s c;replace p6:=p6.s c;replace p7:=p7.s c;replace d:=d.s c
 replace j:=ie (j.out.stn c (by omega));replace l:=c.box;clear c u;refine jd ?_;have t:=XP.cell;have bC:=XB.cell
 go_wp2_with fail
 refine(jp (Wl.lit3 (K:=10) rfl p6.wr p7.wr p7.wr (by omega) (by omega) (by omega)) (by decide) HM.out).mono ?_;rintro ee w4 ⟨bB,M,D,S,rfl,f,C,B⟩;replace B:=bt (ab _ _) B;clear t bC;replace XP:=XP.b B;replace XO:=XO.b B;replace h:=h.b B;replace l:=l.b B;replace d:=d.b B;replace j:=ie (j.out.mv B);clear B p6 p7
 replace C:D<=10:=f.fits (De N.out)
 have t:=XP.cell;have I:=XP.frozen
 go_upto_region 3 with fail
 clear t I;generalize u:(w4.setCell _ _).setCell _ _=w5 at *;have c:=ae.of2 XP u;replace XO:=XO.s c;replace h:=h.s c;replace l:=l.s c;replace d:=d.s c;replace f:=f.s c;replace j:=ie (j.out.stn c (by omega));replace XP:=c.box;clear c u;have W:=P.out
 have X:=Q.out;have x:=XO.a 0 (.int .i64 (2*(k:Int)+1)) rfl;have H:=XO.frozen 0
 go_upto_region 4 with fail
 clear W X;clear x H
 have c:ae w5 (World.setCell w5 ⟨go,0,none⟩ (.int .i64 (2*(k:Int)+3))) _ _ #[.int .i64 (2*(k:Int)+3)] _:=ae.at4 XO 0 (.int .i64 (2*(k:Int)+3))
 replace XP:=XP.s c;replace h:=h.s c;replace l:=l.s c;replace d:=d.s c;replace f:=f.s c;replace j:=ie (j.out.stn c (by omega));replace XO:=c.box;clear c;generalize World.setCell w5 ⟨go,0,none⟩ (.int .i64 (2*(k:Int)+3))=w6 at *;have bD:=h.cell;have J:=h.frozen
 have y:=l.cell;go_wp2;clear bD J y;generalize u:(w6.setCell _ _).setCell _ _=w7 at *;have c:=ae.of2 h u;replace XP:=XP.s c;replace XO:=XO.s c;replace d:=d.s c;replace f:=f.s c;replace j:=ie (j.out.stn c (by omega));replace h:=c.box;clear c u;exact bq (v:= .agg #[.bool r,.slice m q o]) (by simp[results,results237,go_sem,h.cell]) rfl ⟨r,m,q,o,bB,M,D,S,rfl,d,A,XP,f,C,XO,j.out⟩
theorem Em{w:World}{n:Int}(h1:2<=n)(h2:n<=1000):Calls prog 208 #[.int .i64 n] w (fun e w'=>∃gp go gb s6 A6 n6 c6 s7 A7 n7 c7,e= .returned (.func (.func 237) #[] #[.pointer (some ⟨gp,0,none⟩),.pointer (some ⟨go,0,none⟩),.pointer (some ⟨gb,0,none⟩)])/\Bo w' gp #[.bool s6,.slice A6 n6 c6] 43/\Bo w' go #[.int .i64 1] 3/\Bo w' gb #[.bool s7,.slice A7 n7 c7] 43/\Wn w' s6 A6 n6 c6 n/\Wn w' s7 A7 n7 c7 n/\n6<=2/\n7<=2/\gp≠go/\gp≠gb/\go≠gb/\w.heap.size<=gp/\w.heap.size<=go/\Below w.heap.size w w'):=by
 have t:∀(fn:Fn) (first cap:Array Value) (w:World),(Instr.makeFunc fn first cap).run prog w= .ok (.func fn first cap) w:=fun _ _ _ _=>rfl
 have c:=ie (Below.refl w.heap.size w)
 go_enter func208,ntmps208
 go_wp2_with fail
 refine(dU n _ (by omega) (by omega)).mono ?_;rintro s C ⟨s7,A7,n7,c7,rfl,d,y,B⟩;replace c:=aj c B;clear B
 go_wp2_with fail
 refine(dU n _ (by omega) (by omega)).mono ?_;rintro s f ⟨s6,A6,n6,c6,rfl,h,x,B⟩;replace d:=d.b B;replace c:=aj c B;clear B;have u:=c.out.size
 go_upto_region 2 with fail
 have l:(World.alloc f (.cells #[.bool s7,.slice A7 n7 c7] 43)).heap.size=f.heap.size+1:=by simp
 have k:(World.alloc (World.alloc f (.cells #[.bool s7,.slice A7 n7 c7] 43)) (.cells #[.bool s6,.slice A6 n6 c6] 43)).heap.size=f.heap.size+1+1:=by simp
 have m:=ab f (.cells #[.bool s7,.slice A7 n7 c7] 43);replace h:=h.b m;replace d:=d.b m;replace c:=ie (bt c.out m);have g:=Bo.new f #[.bool s7,.slice A7 n7 c7] 43;generalize a:World.alloc f (.cells #[.bool s7,.slice A7 n7 c7] 43)=z at *;clear a;have q:=g.lt
 generalize a:z.alloc _=A at *;obtain⟨i,j⟩:=Bo.nw a;clear a;refine dk ?_ g h d c j;clear g h d c j;intro g h d c;have o:=g.lt;have p:=i.lt;generalize a:A.alloc _=D at *;obtain⟨r,j⟩:=Bo.nw a;clear a;refine dG ?_ g i h d c j;clear g i h d c j;intro g i h d c;rw[l]at i;rw[k]at r;go_wp2;exact bq (v:= .func (.func 237) #[] #[.pointer (some ⟨f.heap.size+1,0,none⟩),.pointer (some ⟨f.heap.size+1+1,0,none⟩),.pointer (some ⟨f.heap.size,0,none⟩)]) (by simp[results,results208,go_sem]) rfl ⟨_,_,_,_,_,_,_,_,_,_,_,rfl,i,r,g,h,d,x,y,by omega,by omega,by omega,by omega,by omega,c.out⟩
def Gc (w:World)(n:Int)(R:Int × Nat)(gp go gb gs:Nat)(s7:Bool)(A7:Option Addr)(n7 c7 k gt:Nat)(wr:World):Prop:=∃(s p T:Int) (s4:Bool) (A4:Option Addr) (n4 c4:Nat) (s5:Bool) (A5:Option Addr) (n5 c5:Nat) (s6:Bool) (A6:Option Addr) (n6 c6:Nat),
 Bo wr w.heap.size #[.bool false,.slice none 0 0] 43/\Bo wr gs #[.bool s4,.slice A4 n4 c4] 43/\Bo wr gt #[.bool s5,.slice A5 n5 c5] 43/\Bo wr gp #[.bool s6,.slice A6 n6 c6] 43/\Bo wr go #[.int .i64 (2*(k:Int)+3)] 3/\Bo wr gb #[.bool s7,.slice A7 n7 c7] 43/\
 Wn wr s4 A4 n4 c4 s/\Wn wr s5 A5 n5 c5 T/\Wn wr s6 A6 n6 c6 (p*(n*n))/\Wn wr s7 A7 n7 c7 n/\n4<=1000*k/\n5<=8/\n6<=10/\k<=100/\w.heap.size < gt/\gs≠gt/\(2:Int)^(2*k+1)<=p/\p<=SC*1000000/\fO n (200-k) k s p=R/\SC.fdiv (p*(2*(k:Int)+1))=T/\Duo gp go w wr
def IU (w:World)(gp go:Nat)(R:Int × Nat)(e:Ending)(w':World):Prop:=∃s A m c,e= .returned (.tuple #[.agg #[.bool s,.slice A m c],.int .i64 (R.2:Int)])/\Wn w' s A m c R.1/\m<=200000/\R.2<=100/\Duo gp go w w'
theorem kR{k:Nat}{p:Int}(h:(2:Int)^(2*k+1)<=p):0 < p:=Int.lt_of_lt_of_le (Int.pow_pos (by decide)) h
theorem CG{p n T:Int}{k:Nat}(hp:(2:Int)^(2*k+1)<=p)(hT:SC.fdiv (p*(2*(k:Int)+1))=T)(h1:2<=n)(h2:n<=1000)(hc:T≠0):p*(n*n)<=SC*1000000:=by
 have a:=kR hp;have b:=Dm a hT hc
 have d:n*n<=1000*1000:=Int.mul_le_mul h2 h2 (by omega) (by decide)
 exact Int.mul_le_mul b (by omega) (Int.mul_nonneg (by omega) (by omega)) (by decide)
theorem Ao{R:Int × Nat}{n p s T:Int}{k f:Nat}(h:fO n f (k+1) (if k%2=1 then s+ -T else s+T) p=R):(k%2=1->fO n f (k+1) (s-T) p=R)/\(¬k%2=1->fO n f (k+1) (s+T) p=R):=by
 constructor <;> intro c
 ·rw[if_pos c]at h;exact h
 ·rw[if_neg c]at h;exact h
theorem Ik{w:World}{gp go gb:Nat}{s6 s7:Bool}{A6 A7:Option Addr}{n6 c6 n7 c7:Nat}{n:Int}{R:Int × Nat}(XP:Bo w gp #[.bool s6,.slice A6 n6 c6] 43)(XO:Bo w go #[.int .i64 1] 3)(XB:Bo w gb #[.bool s7,.slice A7 n7 c7] 43)(p6:Wn w s6 A6 n6 c6 n)(p7:Wn w s7 A7 n7 c7 n)(k6:n6<=2)(k7:n7<=2)(hpo:gp≠go)(hpb:gp≠gb)(hob:go≠gb)(h1:2<=n)(h2:n<=1000)(hR:fO n 200 0 0 n=R):
  Calls prog 207 #[.func (.func 237) #[] #[.pointer (some ⟨gp,0,none⟩),.pointer (some ⟨go,0,none⟩),.pointer (some ⟨gb,0,none⟩)]] w (IU w gp go R):=by
 have HR:=ie hR;have G1:=XP.lt;have G2:=XO.lt;have G3:=XB.lt;obtain⟨T0,hY⟩:∃T0,SC.fdiv (n*(2*((0:Nat):Int)+1))=T0:=⟨_,rfl⟩;have bC:=ie hY;clear hY;clear hR
 go_enter func207,ntmps207
 go_upto_region 1 with fail
 have d:=Bo.newAt w (g:=w.heap.size) rfl #[.bool false,.slice none 0 0] 43
 have f:Hid (Duo gp go w (World.alloc w (.cells #[.bool false,.slice none 0 0] 43))):=ie (.of (ab w (.cells #[.bool false,.slice none 0 0] 43)))
 replace XP:=XP.below (ab w (.cells #[.bool false,.slice none 0 0] 43));replace XO:=XO.below (ab w (.cells #[.bool false,.slice none 0 0] 43));replace XB:=XB.below (ab w (.cells #[.bool false,.slice none 0 0] 43));replace p6:=p6.below (ab w (.cells #[.bool false,.slice none 0 0] 43));replace p7:=p7.below (ab w (.cells #[.bool false,.slice none 0 0] 43));generalize HL:World.alloc w (.cells #[.bool false,.slice none 0 0] 43)=w1 at *
 clear HL
 go_upto_region 2 with fail
 have V:=XP.lt;have U:=XO.lt;have S:=XB.lt;have W:=d.lt;generalize o:w1.alloc _=w2 at *;obtain⟨c,e⟩:=Bo.nw o;clear o;replace XP:=XP.b e;replace XO:=XO.b e;replace XB:=XB.b e;replace d:=d.b e;replace p6:=p6.b e;replace p7:=p7.b e;replace f:=ie (f.out.mv e);clear e;have J:=XP.lt;have I:=XO.lt
 have H:=XB.lt;have L:=d.lt;have Q:=c.lt
 have gS:w.heap.size < w1.heap.size:=W
 have gO:go < w1.heap.size:=U
 have gP:gp < w1.heap.size:=V
 have gB:gb < w1.heap.size:=S
 clear W U V S L I J H;generalize w1.heap.size=gs at *
 have u:Bo w2 go #[.int .i64 (2*((0:Nat):Int)+1)] 3:=XO
 clear XO;have XO:=u;clear u;have HP:=f.out.size
 go_wp2_with fail
 refine(ww (k:=0) XP XO XB p6 p7 (by omega) k7 hpo hpb hob (by decide) (by omega) (Int.le_trans h2 (by decide)) h1 h2 bC.out).mono ?_;rintro ee w3 ⟨DS,hK,zX,hQ,ET,hL,BX,hU,rfl,l,O,YP,m,P,YO,B⟩;replace XB:=XB.duo B (by omega) (by omega);replace d:=d.duo B (by omega) (by omega);replace c:=c.duo B (by omega) (by omega);replace p6:=p6.duo XP XO (by simp[no32]) (by simp[no32]) B
 replace p7:=p7.duo XP XO (by simp[no32]) (by simp[no32]) B;replace f:=ie (f.out.trans B);have bB:=B.size;clear B p6 XP XO;have XP:=YP;have XO:=YO;clear YP YO
 go_upto_region 3 with fail
 have hE:=XP.lt;have hD:=XO.lt;have hC:=XB.lt;have hF:=d.lt;have HV:=c.lt;generalize o:w3.alloc _=w4 at *;obtain⟨j,e⟩:=Bo.nw o;clear o;replace XP:=XP.b e;replace XO:=XO.b e;replace XB:=XB.b e;replace d:=d.b e;replace c:=c.b e;replace p7:=p7.b e;replace l:=l.b e;replace m:=m.b e
 replace f:=ie (f.out.mv e);clear e;clear hF hE hD hC
 have hW:Gc w n R gp go gb gs s7 A7 n7 c7 0 w3.heap.size w4:=⟨0,n,_,_,_,_,_,_,_,_,_,_,_,_,_,d,c,j,XP,XO,XB,⟨Nm.zero,rfl⟩,l,m,p7,Nat.zero_le _,O,P,by decide,by omega,by omega,by simpa using h1,Int.le_trans h2 (by decide),HR.out,bC.out,f.out⟩
 have hM:=ie hW;clear hW d c j XP XO XB p7 l m f HR bC;go_wp2
 go_loopw [5,6] (fun i pt wr=>∃k gt:Nat,i= .int .i64 k/\pt= .pointer (some ⟨gt,0,none⟩)/\Gc w n R gp go gb gs s7 A7 n7 c7 k gt wr) (fun i _ _=>200-(intOf i).toNat)
 case atStart=>exact ⟨0,_,rfl,rfl,hM.out⟩
 case round=>
  obtain⟨k,gt,rfl,rfl,s,p,T,s4,A4,n4,c4,s5,A5,n5,c5,s6,A6,n6,c6,d,c,j,XP,XO,XB,M,x,p6,p7,k4,k5,k6,hk,JB,JC,hp,lB,hG,hT,hB⟩:=hrel;have f:=ie hB;obtain⟨T',hX,HM,HK,hz,hZ⟩:=oy h1 hk hp hG
  obtain rfl:T'=T:=hX.symm.trans hT
  have HT:=ie hT;have HZ:=ie hz;have bH:=ie hZ
  have bD:Hid (T'≠0->p*(n*n)<=SC*1000000):=ie (fun hc=>CG hp hT h1 h2 hc)
  clear hB hM hG hT hX hz hZ HM;have HP:=f.out.size;have J:=XP.lt;have I:=XO.lt;have H:=XB.lt;have L:=d.lt;have Q:=c.lt;have JA:=j.lt
  by_cases hc:T'=0
  ·have HS:Hid (ah T' 0=0):=ie (by rw[hc];decide)
   have HN:=HZ.out hc;subst HN;clear HZ bH bD hp lB;have q:=j.cell
   go_wp2_with fail
   refine(fU x.wr HS.out).mono ?_;rintro ee w5 ⟨rfl,B⟩;clear q;replace XP:=XP.b B;replace XO:=XO.b B;replace XB:=XB.b B;replace d:=d.b B;replace c:=c.b B;replace j:=j.b B;replace M:=M.b B;replace x:=x.b B;replace p6:=p6.b B;replace p7:=p7.b B;replace f:=ie (f.out.mv B);clear B;clear x p6 p7
   clear j XP XO XB;have r:=c.cell;have HY:=d.cell;have HA:=d.frozen;go_wp2;clear r HY HA;generalize F:(w5.setCell _ _).setCell _ _=w6 at *;have a:=ae.of2 d F;replace c:=c.s a;replace M:=M.s a;replace f:=ie (f.out.stn a (by omega));replace d:=a.box;clear a F;exact bq (v:= .tuple #[.agg #[.bool s4,.slice A4 n4 c4],.int .i64 (k:Int)]) (by simp[results,results207,go_sem,d.cell]) rfl ⟨s4,A4,n4,c4,rfl,M,by omega,hk,f.out⟩
  ·have HS:Hid (ah T' 0=1):=ie (aA (by omega))
   obtain⟨hk1,lA,hV⟩:=bH.out hc;have Z:=ie lA;have bA:=ie (bD.out hc);obtain⟨ho,he⟩:=Ao hV;have HO:=ie ho;have HE:=ie he;have hN:=iw ((k:Int)+1);have hP:=jw ((k:Int)+1);clear HZ bH bD lA hV HK ho he hp lB;have q:=j.cell
   go_wp2_with fail
   refine(fU x.wr HS.out).mono ?_;rintro ee w5 ⟨rfl,B⟩;clear q;replace XP:=XP.b B;replace XO:=XO.b B;replace XB:=XB.b B;replace d:=d.b B;replace c:=c.b B;replace j:=j.b B;replace M:=M.b B;replace x:=x.b B;replace p6:=p6.b B;replace p7:=p7.b B;replace f:=ie (f.out.mv B);clear B
   by_cases G:k%2=1
   ·have HF:=ie (HO.out G);clear HO HE
    have t9:(Int.tmod (k:Int) 2==0)=false:=by
     rw[show Int.tmod (k:Int) 2=1 by rw[Int.tmod_eq_emod_of_nonneg (by omega)];omega]
     rfl
    have r:=c.cell;have q:=j.cell
    go_wp2_with fail
    refine(q6 M.wr x.wr (by omega) (by omega) rfl).mono ?_;rintro ee w6 ⟨HW,HC,HU,HD,rfl,h,HQ,B⟩;clear r q;replace XP:=XP.b B;replace XO:=XO.b B;replace XB:=XB.b B;replace d:=d.b B;replace c:=c.b B;replace j:=j.b B;replace M:=M.b B;replace x:=x.b B;replace p6:=p6.b B;replace p7:=p7.b B
    replace f:=ie (f.out.mv B);clear B;clear M t9 G;have r:=c.cell;have X:=c.frozen
    go_upto_region 9 with fail
    clear r X;generalize F:(w6.setCell _ _).setCell _ _=E at *;have a:=ae.of2 c F;replace XP:=XP.s a;replace XO:=XO.s a;replace XB:=XB.s a;replace d:=d.s a;replace j:=j.s a;replace x:=x.s a;replace p6:=p6.s a;replace p7:=p7.s a
    replace h:=h.s a;replace f:=ie (f.out.stn a (by omega));replace c:=a.box;clear a F;have bN:=hN.out;have hA:=hP.out;have q:=j.cell
    go_upto_region 4 with fail
    clear q;clear bN hA j;have C:=XP.lt;have A:=XO.lt;have z:=XB.lt;have D:=d.lt;have y:=c.lt;generalize o:E.alloc _=hH at *;obtain⟨t,e⟩:=Bo.nw o;clear o;replace XP:=XP.b e;replace XO:=XO.b e;replace XB:=XB.b e;replace d:=d.b e;replace c:=c.b e;replace x:=x.b e;replace p6:=p6.b e
    replace p7:=p7.b e;replace h:=h.b e;replace f:=ie (f.out.mv e);clear e;have J:=XP.lt;have I:=XO.lt;have H:=XB.lt;have L:=d.lt;have Q:=c.lt;have xX:=t.lt;have qT:=f.out.size
    have g7:gs < E.heap.size:=y
    have HI:gp < E.heap.size:=C
    have HH:go < E.heap.size:=A
    have HG:gb < E.heap.size:=z
    have HJ:w.heap.size < E.heap.size:=D
    clear x
    have u:Bo hH go #[.int .i64 (2*((k+1:Nat):Int)+1)] 3:=by
     rw[show 2*((k+1:Nat):Int)+1=2*(k:Int)+3 by omega]
     exact XO
    clear XO;have XO:=u;clear u;obtain⟨T2,N⟩:∃T2,SC.fdiv (p*(n*n)*(2*((k+1:Nat):Int)+1))=T2:=⟨_,rfl⟩
    go_wp2_with fail
    refine(ww (k:=k+1) XP XO XB p6 p7 k6 k7 hpo hpb hob (by omega) (kR Z.out) bA.out h1 h2 N).mono ?_;rintro ee hI ⟨DS,hK,zX,hQ,ET,hL,BX,hU,rfl,l,O,YP,m,P,YO,B⟩;replace XB:=XB.duo B (by omega) (by omega);replace d:=d.duo B (by omega) (by omega);replace c:=c.duo B (by omega) (by omega);replace t:=t.duo B (by omega) (by omega)
    replace h:=h.duo XP XO (by simp[no32]) (by simp[no32]) B;replace p6:=p6.duo XP XO (by simp[no32]) (by simp[no32]) B;replace p7:=p7.duo XP XO (by simp[no32]) (by simp[no32]) B;replace f:=ie (f.out.trans B);have bB:=B.size;clear B p6 XP XO;have XP:=YP;have XO:=YO;clear YP YO;have hJ:=t.cell;have Y:=t.frozen;go_wp2;clear hJ Y
    generalize F:(hI.setCell _ _).setCell _ _=HX at *;have a:=ae.of2 t F;replace XP:=XP.s a;replace XO:=XO.s a;replace XB:=XB.s a;replace d:=d.s a;replace c:=c.s a;replace h:=h.s a;replace p7:=p7.s a;replace l:=l.s a
    replace m:=m.s a;replace f:=ie (f.out.stn a (by omega));replace t:=a.box;clear a F
    go_roundw
    case rel=>exact ⟨k+1,E.heap.size,by go_num,rfl,_,_,_,_,_,_,_,_,_,_,_,_,_,_,_,d,c,t,XP,XO,XB,h,l,m,p7,by omega,O,P,hk1,by omega,by omega,Z.out,bA.out,HF.out,N,f.out⟩
    case measure=>simp [intOf];omega
   ·have HF:=ie (HE.out G);clear HO HE
    have t9:(Int.tmod (k:Int) 2==0)=true:=by
     rw[show Int.tmod (k:Int) 2=0 by rw[Int.tmod_eq_emod_of_nonneg (by omega)];omega]
     rfl
    have r:=c.cell;have q:=j.cell
    go_wp2_with fail
    refine(lR M.wr x.wr (by omega) (by omega) rfl).mono ?_;rintro ee w6 ⟨HW,HC,HU,HD,rfl,h,HQ,B⟩;clear r q;replace XP:=XP.b B;replace XO:=XO.b B;replace XB:=XB.b B;replace d:=d.b B;replace c:=c.b B;replace j:=j.b B;replace p6:=p6.b B;replace p7:=p7.b B;replace f:=ie (f.out.mv B);clear B
    clear M t9 G;have r:=c.cell;have X:=c.frozen
    go_upto_region 9 with fail
    clear r X;generalize F:(w6.setCell _ _).setCell _ _=E at *;have a:=ae.of2 c F;replace XP:=XP.s a;replace XO:=XO.s a;replace XB:=XB.s a;replace d:=d.s a;replace j:=j.s a;replace p6:=p6.s a;replace p7:=p7.s a;replace h:=h.s a
    replace f:=ie (f.out.stn a (by omega));replace c:=a.box;clear a F;have bN:=hN.out;have hA:=hP.out;have q:=j.cell
    go_upto_region 4 with fail
    clear q;clear bN hA j;have C:=XP.lt;have A:=XO.lt;have z:=XB.lt;have D:=d.lt;have y:=c.lt;generalize o:E.alloc _=hH at *;obtain⟨t,e⟩:=Bo.nw o;clear o;replace XP:=XP.b e;replace XO:=XO.b e;replace XB:=XB.b e;replace d:=d.b e;replace c:=c.b e;replace p6:=p6.b e;replace p7:=p7.b e
    replace h:=h.b e;replace f:=ie (f.out.mv e);clear e;have J:=XP.lt;have I:=XO.lt;have H:=XB.lt;have L:=d.lt;have Q:=c.lt;have xX:=t.lt;have qT:=f.out.size
    have g7:gs < E.heap.size:=y
    have HI:gp < E.heap.size:=C
    have HH:go < E.heap.size:=A
    have HG:gb < E.heap.size:=z
    have HJ:w.heap.size < E.heap.size:=D
    clear x
    have u:Bo hH go #[.int .i64 (2*((k+1:Nat):Int)+1)] 3:=by
     rw[show 2*((k+1:Nat):Int)+1=2*(k:Int)+3 by omega]
     exact XO
    clear XO;have XO:=u;clear u;obtain⟨T2,N⟩:∃T2,SC.fdiv (p*(n*n)*(2*((k+1:Nat):Int)+1))=T2:=⟨_,rfl⟩
    go_wp2_with fail
    refine(ww (k:=k+1) XP XO XB p6 p7 k6 k7 hpo hpb hob (by omega) (kR Z.out) bA.out h1 h2 N).mono ?_;rintro ee hI ⟨DS,hK,zX,hQ,ET,hL,BX,hU,rfl,l,O,YP,m,P,YO,B⟩;replace XB:=XB.duo B (by omega) (by omega);replace d:=d.duo B (by omega) (by omega);replace c:=c.duo B (by omega) (by omega);replace t:=t.duo B (by omega) (by omega)
    replace h:=h.duo XP XO (by simp[no32]) (by simp[no32]) B;replace p7:=p7.duo XP XO (by simp[no32]) (by simp[no32]) B;replace f:=ie (f.out.trans B);have bB:=B.size;clear B p6 XP XO;have XP:=YP;have XO:=YO;clear YP YO;have hJ:=t.cell;have Y:=t.frozen;go_wp2;clear hJ Y;generalize F:(hI.setCell _ _).setCell _ _=HX at *
    have a:=ae.of2 t F;replace XP:=XP.s a;replace XO:=XO.s a;replace XB:=XB.s a;replace d:=d.s a;replace c:=c.s a;replace h:=h.s a;replace p7:=p7.s a;replace l:=l.s a;replace m:=m.s a;replace f:=ie (f.out.stn a (by omega))
    replace t:=a.box;clear a F
    go_roundw
    case rel=>exact ⟨k+1,E.heap.size,by go_num,rfl,_,_,_,_,_,_,_,_,_,_,_,_,_,_,_,d,c,t,XP,XO,XB,h,l,m,p7,by omega,O,P,hk1,by omega,by omega,Z.out,bA.out,HF.out,N,f.out⟩
    case measure=>simp [intOf];omega
end Go.Proofs.YteigedaefgmojaaGreatDoor
namespace Go.Proofs.YteigedaefgmojaaGreatDoor
open Go.Proofs.Tryz
open Go Go.RowKit
set_option linter.unusedVariables false
theorem xy{x m c:Int}(hm:max x (-x)=m)(h:ah m (al 1073741824)=c):decide (0<=c)=!(aD x):=by
 subst hm;have t:=Hh
 unfold aD
 rw[<-h]
 by_cases g: -al 1073741824 < x/\x < al 1073741824
 ·rw[dt g,ax (show max x (-x) < al 1073741824 by omega)]
  rfl
 ·rw[df g]
  rcases ap (max x (-x)) (al 1073741824)with ⟨a,b⟩ | ⟨a,b⟩ | ⟨a,b⟩
  ·omega
  ·rw[b];rfl
  ·rw[b];rfl
theorem CC{x:Int}(ha: -19342822337206103650074625<=x):nk [x,-x]=max x (-x):=rL ha
theorem BM{D M E x:Int}{s:Bool}(hM:LQ M)(hx:rk D s M E=x)(hb:aD x=true):
  ∃N F,(iL D s M E).1=N/\(iL D s M E).2=F/\mk N F=(N,F)/\vr x=N*2^(F+KK).toNat/\N.natAbs < 2^64/\ -2900000<=F/\F<=2900000:=by
 have zero:∀N:Int,N=0->vr 0=N*2^((0:Int)+KK).toNat:=fun N e=>by rw[e,Int.zero_mul];rfl
 by_cases h:aG D s M E
 ·have q:=dX hM h;rw[hx]at q
  rcases ru q with⟨rfl,rfl⟩ | rfl | rfl
  ·obtain⟨_,rfl,rfl,rfl⟩:=q.uniq Fq.nought;exact⟨0,0,by decide,by decide,bU 0,zero 0 rfl,by decide,by decide,by decide⟩
  ·obtain⟨N,F,_,a,b,f,d,c,g1,g2,_⟩:=rr q;exact⟨N,F,a,b,f,d,c,g1,g2⟩
  ·rw[(rt q).1]at hb
   cases hb
 ·have e:iL D s M E=(0,0):=by
   unfold iL lJ
   rw[df h]
   rfl
  rw[eU h]at hx;subst hx;exact⟨0,0,by rw[e],by rw[e],bU 0,zero 0 rfl,by decide,by decide,by decide⟩
theorem xz{N F P Q x:Int}(nf:mk N F=(N,F))(hv:vr x=N*2^(F+KK).toNat)(h64:N.natAbs < 2^64)(h1: -2900000<=F)(h2:F<=2900000)(hb:aD x=true)
  (hP:(EW (mk N F) 192).1=P) (hQ:(EW (mk N F) 192).2=Q):pO (mk P Q).1 (mk P Q).2=ak x:=by
 have a:=ma nf (Nat.lt_trans h64 (by decide)) h1 h2
 have e:mv N F 192=mk N (F+192):=by
  unfold mv
  rw[if_neg (by omega),nf]
 rw[nf]at hP hQ
 have e2:mk P Q=(P,Q):=by
  have:=fh N (F+192)
  rw[<-hP,<-hQ];exact this
 rw[e2,gh hb,hv,<-a,e,<-hP,<-hQ]
 rfl
end Go.Proofs.YteigedaefgmojaaGreatDoor
namespace Go.Proofs.YteigedaefgmojaaGreatDoor
open Go.Proofs.Tryz
set_option maxHeartbeats 1000000
open Go.RowKit
set_option linter.unusedVariables false
theorem Dg{q d d':Nat}(h:d=0↔d'=0):fo q d=fo q d':=by
 unfold fo
 by_cases c:d=0
 ·rw[if_pos c,if_pos (h.1 c)]
 ·rw[if_neg c,if_neg (fun e=>c (h.2 e))]
theorem se (q d:Nat):fo q d<=2*q+1:=by
 unfold fo
 split <;> omega
theorem kF{a k:Nat}(h0:0 < a)(h:k < ac a):2^k<=a:=by
 have h1:=blen_le (n:=a) (by omega);exact Nat.le_trans (Nat.pow_le_pow_right (by decide) (by omega)) h1
theorem CO{α β k:Nat}{e:Int}(hα:0 < α)(hβ:0 < β)(hk:(ac β:Int)-(ac α:Int)+64=(k:Int))(ha:ac α<=112000)(hb:ac β<=112000)(e1: -2200000<=e)(e2:e<=2200000)(σ up:Bool):
  eZ up (an σ ((α:Int)*2^(e+KK).toNat)) (β:Int) (dM up (mk (an σ ((fo (α*2^k/β) (α*2^k%β):Nat):Int)) (e-k-1)).1 (mk (an σ ((fo (α*2^k/β) (α*2^k%β):Nat):Int)) (e-k-1)).2):=by
 obtain⟨κ,b⟩:∃κ:Nat,κ=500000:=⟨_,rfl⟩
 have la:0 < ac α:=by
  rcases Nat.eq_zero_or_pos (ac α)with c | c
  ·have:=dw α
   rw[c]at this
   omega
  ·exact c
 have hq:9223372036854775808<=α*2^k/β:=by
  rw[Nat.le_div_iff_mul_le hβ];have d:=dw β
  have l2:2^63*β<=2^63*2^ac β:=Nat.mul_le_mul_left _ (Nat.le_of_lt d)
  have f:=kF (k:=ac α-1) hα (by omega)
  have a:2^(ac α-1)*2^k<=α*2^k:=Nat.mul_le_mul_right _ f
  rw[<-Nat.pow_add]at l2 a
  rw[show ac α-1+k=63+ac β by omega]at a
  omega
 have hs:fo (α*2^k/β) (α*2^k%β) < 2^κ:=by
  have i:α*2^k/β<=α*2^k:=Nat.div_le_self _ _
  have g:α*2^k < 2^ac α*2^k:=Nat.mul_lt_mul_of_pos_right (dw α) (Nat.pow_pos (by decide))
  rw[<-Nat.pow_add]at g;have j:=se (α*2^k/β) (α*2^k%β)
  have h:2^(ac α+k+1)<=2^κ:=Nat.pow_le_pow_right (by decide) (by omega)
  rw[Nat.pow_succ]at h
  omega
 rw[nF]
 exact nL (kY (up !=σ) hβ (fun _=>hq) b hs (by omega) (by omega))
theorem yl{α β k:Nat}:α%(β*2^k)=0↔α/2^k*2^k=α/\α/2^k%β=0:=by
 have c:0 < 2^k:=Nat.pow_pos (by decide)
 constructor
 ·intro h
  obtain⟨t,ht⟩:=Nat.dvd_of_mod_eq_zero h
  have e:α/2^k=β*t:=by
   rw[ht,Nat.mul_right_comm,Nat.mul_div_cancel _ c]
  rw[e];refine⟨?_,Nat.mul_mod_right _ _⟩;rw[ht,Nat.mul_right_comm]
 ·rintro ⟨a,b⟩;obtain⟨t,ht⟩:=Nat.dvd_of_mod_eq_zero b;rw[<-a,ht,Nat.mul_right_comm];exact Nat.mul_mod_right _ _
theorem CN{α β k d:Nat}{e:Int}(hα:0 < α)(hβ:0 < β)(hk:(ac β:Int)-(ac α:Int)+64= -(k:Int))(ha:ac α<=112000)(e1: -2200000<=e)(e2:e<=2200000)(hd:d=0↔(α/2^k*2^k=α/\α/2^k%β=0))(σ up:Bool):
  eZ up (an σ ((α:Int)*2^(e+KK).toNat)) (β:Int) (dM up (mk (an σ ((fo (α/2^k/β) d:Nat):Int)) (e+k-1)).1 (mk (an σ ((fo (α/2^k/β) d:Nat):Int)) (e+k-1)).2):=by
 have c:=eB;obtain⟨κ,g⟩:∃κ:Nat,κ=500000:=⟨_,rfl⟩
 have f:0 < 2^k:=Nat.pow_pos (by decide)
 have a:0 < β*2^k:=Nat.mul_pos hβ f
 have b:fo (α/2^k/β) d=fo (α/ (β*2^k)) (α%(β*2^k)):=by
  rw[Nat.div_div_eq_div_mul,Nat.mul_comm (2^k) β];exact Dg (hd.trans yl.symm)
 rw[b]
 have hq:9223372036854775808<=α/ (β*2^k):=by
  rw[Nat.le_div_iff_mul_le a];have i:=dw β
  have l2:2^63*(β*2^k)<=2^63*(2^ac β*2^k):=Nat.mul_le_mul_left _ (Nat.mul_le_mul_right _ (Nat.le_of_lt i))
  have j:=kF (k:=ac α-1) hα (by omega);rw[<-Nat.pow_add,<-Nat.pow_add]at l2
  rw[show ac α-1=63+(ac β+k) by omega]at j
  omega
 have hs:fo (α/ (β*2^k)) (α%(β*2^k)) < 2^κ:=by
  have m:α/ (β*2^k)<=α:=Nat.div_le_self _ _
  have o:=dw α;have p:=se (α/ (β*2^k)) (α%(β*2^k))
  have l:2^(ac α+1)<=2^κ:=Nat.pow_le_pow_right (by decide) (by omega)
  rw[Nat.pow_succ]at l
  omega
 have h:=kY (α:=α) (β:=β*2^k) (e:=e+k) (n:=0) (up !=σ) a (fun _=>by rw[Nat.pow_zero,Nat.mul_one];exact hq) g (by rw[Nat.pow_zero,Nat.mul_one];exact hs) (by omega) (by omega)
 rw[Nat.pow_zero,Nat.mul_one,show e+(k:Int)-((0:Nat):Int)-1=e+k-1 by omega]at h
 rw[nF];refine nL (h.cross (by omega) (by omega) ?_)
 have e3:(e+(k:Int)+(KK:Int)).toNat=(e+(KK:Int)).toNat+k:=by omega
 rw[e3,Int.pow_add]
 push_cast
 generalize (2:Int)^(e+(KK:Int)).toNat=U;generalize (2:Int)^k=V;rw[Int.mul_assoc,Int.mul_assoc,Int.mul_assoc,Int.mul_comm V (β:Int)]
set_option linter.unusedSimpArgs false
set_option maxRecDepth 100000
def Pk (w:World)(A:Option Addr)(n c:Nat)(t:Bool)(x:Int)(P:Bool->Bool->Int->Prop):Prop:=
 ∃q d:Nat,Nm w A n c q/\n<=20000/\decide (d=0)=t/\ -3000000<=x/\x<=3000000/\∀σ up,P σ up (dM up (mk (an σ ((fo q d:Nat):Int)) (x-1)).1 (mk (an σ ((fo q d:Nat):Int)) (x-1)).2)
theorem Pk.below{w w':World}{A:Option Addr}{n c:Nat}{t:Bool}{x:Int}{P:Bool->Bool->Int->Prop}(h:Pk w A n c t x P)(b:Below w.heap.size w w'):Pk w' A n c t x P:=by
 obtain⟨q,d,h1,h2⟩:=h;exact⟨q,d,h1.below b,h2⟩
abbrev Pk.b:= @Pk.below
instance {w w':World} {A:Option Addr} {n c:Nat} {t:Bool} {x:Int} {P:Bool->Bool->Int->Prop}:Mv (Pk w A n c t x P) w w' (Pk w' A n c t x P):=⟨fun h b=>h.below b⟩
def IL (w:World)(P:Bool->Bool->Int->Prop)(e:Ending)(w':World):Prop:=∃A n c t x,e= .returned (.agg #[.slice A n c,.bool t,.int .i64 x])/\Pk w' A n c t x P/\Below w.heap.size w w'
def Jo.Fact.pk (P:Bool->Bool->Int->Prop):Jo.Fact:=⟨fun v w=>∃A n c t x,v= .agg #[.slice A n c,.bool t,.int .i64 x]/\Pk w A n c t x P,fun v w w' h b=>by
 obtain⟨A,n,c,t,x,e,p⟩:=h;exact⟨A,n,c,t,x,e,p.below b⟩⟩
def H8 (w:World)(Q:Nat)(t:Bool)(x:Int)(e:Ending)(w':World):Prop:=∃A n c,e= .returned (.agg #[.slice A n c,.bool t,.int .i64 x])/\Nm w' A n c Q/\n<=20000/\Below w.heap.size w w'
def MV (α:Nat)(z:Int)(T:Nat)(t:Bool):Prop:=∀(w:World) (A:Option Addr) (n c:Nat),Rd w A n c α->n<=8000->Calls prog 234 #[.slice A n c,.int .i64 z] w (Ig w 15000 T t)
theorem kU{w:World}{A B:Option Addr}{n c m d α β T Q R:Nat}{La Lb z e x:Int}(ha:Rd w A n c α)(hb:Rd w B m d β)(hn:n<=8000)(hβ:β≠0)(hla:((ac α:Nat):Int)=La)(hlb:((ac β:Nat):Int)=Lb)(hz:Lb-La+64=z)(z1: -200000<=z)(z2:z<=200000)(hx:e-z=x)(x1: -3000000<=x)(x2:x<=2097152)
  (hm:MV α z T true) (hQ:T/β=Q) (hR:T%β=R) (h0:R=0):Calls prog 203 #[.slice A n c,.slice B m d,.int .i64 e] w (H8 w Q true x):=by
 have L:=ie hm;have j:=ie hla;have k:=ie hlb;have M:=ie hQ;have p:=ie hR;have H:=ie h0;have i:=ie hβ
 have e0:Lb-La=z-64:=by omega
 have q:Hid (IntKind.i64.wrap (Lb-La)=z-64):=ie (by rw[e0];exact IntWalk.i64_in _ (by omega))
 have r:Hid (wrap64 z=z):=ie (IntWalk.wrap64_in _ (by omega))
 have N:Hid (wrap64 x=x):=ie (IntWalk.wrap64_in _ (by omega))
 have t:Hid (IntKind.i64.wrap (e-z)=x):=ie (by rw[hx];exact IntWalk.i64_in _ (by omega))
 have S:z<=2097152:=by omega
 have o:Hid (min z 2097152=z):=ie (by omega)
 have l:Hid (min x 2097152=x):=ie (by omega)
 clear hm hla hlb hz e0 hx hQ hR h0 hβ z1 z2 x1
 go_enter func203,ntmps203
 go_upto_region 1 with fail
 generalize g:w.alloc _=w1 at *;obtain⟨f,a⟩:=Bo.en1 g;replace ha:=ha.below a.out;replace hb:=hb.below a.out;clear g
 go_wp2_with fail
 refine(gE hb k.out).mono ?_;rintro y w2 ⟨rfl,B⟩;refine dk ?_ f ha hb a B;clear f ha hb a B;intro f ha hb a
 go_wp2_with fail
 refine(gE ha j.out).mono ?_;rintro y w3 ⟨rfl,B⟩;refine dk ?_ f ha hb a B;clear f ha hb a B;intro f ha hb a;have D:=q.out;have E:=r.out;have C:=o.out
 go_wp2_with fail
 refine(L.out _ _ _ _ ha hn).mono ?_;rintro y w4 ⟨A4,n4,c4,rfl,I,X,B⟩;refine aE ?_ f hb a B;clear f hb a B;intro f hb a;clear D E C
 go_wp2_with fail
 refine(AJ I.rd hb (by omega) i.out M.out p.out).mono ?_;rintro y w5 ⟨A5,n5,c5,V,U,W,rfl,F,J,Y,Z,B⟩;replace f:=f.b B;replace a:=aj a B;clear B;clear hb I
 obtain rfl:U=0:=by have:=J.pos;have:=H.out;omega
 clear J H;have P:=t.out;have O:=l.out;have G:=f.cell;have h:=f.frozen;go_wp2;clear G h;have u:=ae.mk3 f (.slice A5 n5 c5) (.bool true) (.int .i64 x);replace F:=F.s u;exact bq (v:= .agg #[.slice A5 n5 c5,.bool true,.int .i64 x]) (by simp[results,results203,go_sem,u.box.cell]) rfl ⟨A5,n5,c5,rfl,F,by omega,(u.below a.out (by omega))⟩
theorem kV{w:World}{A B:Option Addr}{n c m d α β T Q R:Nat}{La Lb z e x:Int}(ha:Rd w A n c α)(hb:Rd w B m d β)(hn:n<=8000)(hβ:β≠0)(hla:((ac α:Nat):Int)=La)(hlb:((ac β:Nat):Int)=Lb)(hz:Lb-La+64=z)(z1: -200000<=z)(z2:z<=200000)(hx:e-z=x)(x1: -3000000<=x)(x2:x<=2097152)
  (hm:MV α z T true) (hQ:T/β=Q) (hR:T%β=R) (h0:R≠0):Calls prog 203 #[.slice A n c,.slice B m d,.int .i64 e] w (H8 w Q false x):=by
 have N:=ie hm;have k:=ie hla;have l:=ie hlb;have O:=ie hQ;have q:=ie hR;have i:=ie h0;have j:=ie hβ
 have e0:Lb-La=z-64:=by omega
 have r:Hid (IntKind.i64.wrap (Lb-La)=z-64):=ie (by rw[e0];exact IntWalk.i64_in _ (by omega))
 have t:Hid (wrap64 z=z):=ie (IntWalk.wrap64_in _ (by omega))
 have P:Hid (wrap64 x=x):=ie (IntWalk.wrap64_in _ (by omega))
 have u:Hid (IntKind.i64.wrap (e-z)=x):=ie (by rw[hx];exact IntWalk.i64_in _ (by omega))
 have W:z<=2097152:=by omega
 have p:Hid (min z 2097152=z):=ie (by omega)
 have o:Hid (min x 2097152=x):=ie (by omega)
 clear hm hla hlb hz e0 hx hQ hR h0 hβ z1 z2 x1
 go_enter func203,ntmps203
 go_upto_region 1 with fail
 generalize g:w.alloc _=w1 at *;obtain⟨f,a⟩:=Bo.en1 g;replace ha:=ha.below a.out;replace hb:=hb.below a.out;clear g
 go_wp2_with fail
 refine(gE hb l.out).mono ?_;rintro C w2 ⟨rfl,B⟩;refine dk ?_ f ha hb a B;clear f ha hb a B;intro f ha hb a
 go_wp2_with fail
 refine(gE ha k.out).mono ?_;rintro C w3 ⟨rfl,B⟩;refine dk ?_ f ha hb a B;clear f ha hb a B;intro f ha hb a;have E:=r.out;have F:=t.out;have D:=p.out
 go_wp2_with fail
 refine(N.out _ _ _ _ ha hn).mono ?_;rintro C w4 ⟨A4,n4,c4,rfl,M,Z,B⟩;refine aE ?_ f hb a B;clear f hb a B;intro f hb a;clear E F D
 go_wp2_with fail
 refine(AJ M.rd hb (by omega) j.out O.out q.out).mono ?_;rintro C w5 ⟨A5,n5,c5,X,G,Y,rfl,H,I,k5,l5,B⟩;replace f:=f.b B;replace a:=aj a B;clear B;clear hb M
 have U:((G:Int)==0)=false:=by
  have:=I.pos
  have:=i.out
  have:(G:Int)≠0:=by omega
  simpa using this
 have L:¬G=0:=by have:=I.pos;have:=i.out;omega
 clear I i;have V:=u.out;have S:=o.out;have J:=f.cell;have h:=f.frozen;go_wp2;clear J h;have y:=ae.mk3 f (.slice A5 n5 c5) (.bool false) (.int .i64 x);replace H:=H.s y;exact bq (v:= .agg #[.slice A5 n5 c5,.bool false,.int .i64 x]) (by simp[results,results203,go_sem,y.box.cell]) rfl ⟨A5,n5,c5,rfl,H,by omega,(y.below a.out (by omega))⟩
theorem qy{w:World}{A B:Option Addr}{n c m d α β T Q R:Nat}{La Lb z e x:Int}(ha:Rd w A n c α)(hb:Rd w B m d β)(hn:n<=8000)(hβ:β≠0)(hla:((ac α:Nat):Int)=La)(hlb:((ac β:Nat):Int)=Lb)(hz:Lb-La+64=z)(z1: -200000<=z)(z2:z<=200000)(hx:e-z=x)(x1: -3000000<=x)(x2:x<=2097152)
  (hm:MV α z T false) (hQ:T/β=Q) (hR:T%β=R) (h0:True):Calls prog 203 #[.slice A n c,.slice B m d,.int .i64 e] w (H8 w Q false x):=by
 have J:=ie hm;have j:=ie hla;have k:=ie hlb;have L:=ie hQ;have p:=ie hR;have I:=ie h0;have i:=ie hβ
 have e0:Lb-La=z-64:=by omega
 have q:Hid (IntKind.i64.wrap (Lb-La)=z-64):=ie (by rw[e0];exact IntWalk.i64_in _ (by omega))
 have r:Hid (wrap64 z=z):=ie (IntWalk.wrap64_in _ (by omega))
 have M:Hid (wrap64 x=x):=ie (IntWalk.wrap64_in _ (by omega))
 have t:Hid (IntKind.i64.wrap (e-z)=x):=ie (by rw[hx];exact IntWalk.i64_in _ (by omega))
 have P:z<=2097152:=by omega
 have o:Hid (min z 2097152=z):=ie (by omega)
 have l:Hid (min x 2097152=x):=ie (by omega)
 clear hm hla hlb hz e0 hx hQ hR h0 hβ z1 z2 x1
 go_enter func203,ntmps203
 go_upto_region 1 with fail
 generalize g:w.alloc _=w1 at *;obtain⟨f,a⟩:=Bo.en1 g;replace ha:=ha.below a.out;replace hb:=hb.below a.out;clear g
 go_wp2_with fail
 refine(gE hb k.out).mono ?_;rintro y w2 ⟨rfl,B⟩;refine dk ?_ f ha hb a B;clear f ha hb a B;intro f ha hb a
 go_wp2_with fail
 refine(gE ha j.out).mono ?_;rintro y w3 ⟨rfl,B⟩;refine dk ?_ f ha hb a B;clear f ha hb a B;intro f ha hb a;have D:=q.out;have E:=r.out;have C:=o.out
 go_wp2_with fail
 refine(J.out _ _ _ _ ha hn).mono ?_;rintro y w4 ⟨A4,n4,c4,rfl,H,W,B⟩;refine aE ?_ f hb a B;clear f hb a B;intro f hb a;clear D E C
 go_wp2_with fail
 refine(AJ H.rd hb (by omega) i.out L.out p.out).mono ?_;rintro y w5 ⟨A5,n5,c5,U,Z,V,rfl,F,S,X,Y,B⟩;replace f:=f.b B;replace a:=aj a B;clear B;clear hb H;clear S I;have O:=t.out;have N:=l.out;have G:=f.cell;have h:=f.frozen;go_wp2;clear G h;have u:=ae.mk3 f (.slice A5 n5 c5) (.bool false) (.int .i64 x)
 replace F:=F.s u;exact bq (v:= .agg #[.slice A5 n5 c5,.bool false,.int .i64 x]) (by simp[results,results203,go_sem,u.box.cell]) rfl ⟨A5,n5,c5,rfl,F,by omega,(u.below a.out (by omega))⟩
theorem yD{α k:Nat}(hk:k<=200000):MV α (k:Int) (α*2^k) true:=fun w A n c h hn=>vm h hn hk rfl
theorem yC{α k:Nat}{z:Int}(h0:0 < k)(hk:k<=200000)(hz: -z=(k:Int)):MV α z (α/2^k) (decide (α/2^k*2^k=α)):=fun w A n c h hn=>by
 refine vk h hn hk h0 hz rfl rfl rfl ?_
 by_cases c:α/2^k*2^k=α
 ·rw[dt c,c,jy]
  rfl
 ·rw[df c]
  have:¬ah ((α/2^k*2^k:Nat):Int) (α:Int)=0:=fun e=>c (by have:=dm.1 e;omega)
  simpa using this
theorem zw{w:World}{A B:Option Addr}{n c m d α β:Nat}{e:Int}{P:Bool->Bool->Int->Prop}(ha:Rd w A n c α)(hb:Rd w B m d β)(hn:n<=3500)(hm:m<=3500)(hα:0 < α)(hβ:0 < β)(e1: -2200000<=e)(e2:e<=2200000)(e3:e-((ac β:Int)-(ac α:Int)+64)<=2097152)
  (hP:∀σ up r,eZ up (an σ ((α:Int)*2^(e+(KK:Int)).toNat)) (β:Int) r->P σ up r):Calls prog 203 #[.slice A n c,.slice B m d,.int .i64 e] w (IL w P):=by
 have l:=ha.blen_le;have o:=hb.blen_le;obtain⟨z,hz⟩:∃z:Int,(ac β:Int)-(ac α:Int)+64=z:=⟨_,rfl⟩;rw[hz]at e3
 have a:β≠0:=by omega
 have fin:∀{Q D:Nat} {t t':Bool},t'=t->decide (D=0)=t->(∀σ up,eZ up (an σ ((α:Int)*2^(e+(KK:Int)).toNat)) (β:Int) (dM up (mk (an σ ((fo Q D:Nat):Int)) (e-z-1)).1 (mk (an σ ((fo Q D:Nat):Int)) (e-z-1)).2))->∀b w',H8 w Q t' (e-z) b w'->IL w P b w':=by
  rintro Q D t t' rfl ht hs b w' ⟨A',n',c',p,g,i,f⟩
  exact⟨A',n',c',t',e-z,p,⟨Q,D,g,i,ht,by omega,by omega,fun σ up=>hP σ up _ (hs σ up)⟩,f⟩
 rcases Int.lt_or_le z 0 with c0 | c0
 ·obtain⟨k,i⟩:∃k:Nat,z= -(k:Int):=⟨z.natAbs,by omega⟩
  have mv:=yC (α:=α) (k:=k) (z:=z) (by omega) (by omega) (by omega)
  have hs:=fun {D} (hd:D=0↔(α/2^k*2^k=α/\α/2^k%β=0)) (σ up:Bool)=>CN (e:=e) (d:=D) hα hβ (by omega) (by omega) e1 e2 hd σ up
  have j:e+(k:Int)-1=e-z-1:=by omega
  rw[j]at hs
  by_cases h1:α/2^k*2^k=α
  ·rw[dt h1]at mv
   by_cases h2:α/2^k%β=0
   ·exact(kU ha hb (by omega) a rfl rfl hz (by omega) (by omega) rfl (by omega) e3 mv rfl rfl h2).mono (fin (D:=0) rfl rfl (hs ⟨fun _=>⟨h1,h2⟩,fun _=>rfl⟩))
   ·exact(kV ha hb (by omega) a rfl rfl hz (by omega) (by omega) rfl (by omega) e3 mv rfl rfl h2).mono (fin (D:=1) rfl rfl (hs ⟨fun h=>absurd h (by decide),fun h=>absurd h.2 h2⟩))
  ·rw[df h1]at mv
   exact(qy ha hb (by omega) a rfl rfl hz (by omega) (by omega) rfl (by omega) e3 mv rfl rfl trivial).mono (fin (D:=1) rfl rfl (hs ⟨fun h=>absurd h (by decide),fun h=>absurd h.1 h1⟩))
 ·obtain⟨k,rfl⟩:∃k:Nat,z=(k:Int):=⟨z.toNat,by omega⟩
  have mv:=yD (α:=α) (k:=k) (by omega);have hs:=CO (e:=e) hα hβ hz (by omega) (by omega) e1 e2
  by_cases h2:α*2^k%β=0
  ·exact(kU ha hb (by omega) a rfl rfl hz (by omega) (by omega) rfl (by omega) e3 mv rfl rfl h2).mono (fin rfl (dt h2) hs)
  ·exact(kV ha hb (by omega) a rfl rfl hz (by omega) (by omega) rfl (by omega) e3 mv rfl rfl h2).mono (fin rfl (df h2) hs)
theorem ri (e:Int):bits .and .i64 e 1=e%2:=by
 have h1:(BitVec.ofInt IntKind.i64.bits e &&& BitVec.ofInt IntKind.i64.bits 1).toNat=(e%18446744073709551616).toNat%2:=by
  rw[BitVec.toNat_and,BitVec.toNat_ofInt,BitVec.toNat_ofInt,show (1%((2^IntKind.i64.bits:Nat):Int)).toNat=1 by decide,Nat.and_one_is_mod]
  rfl
 show IntKind.i64.wrap ((BitVec.ofInt IntKind.i64.bits e &&& BitVec.ofInt IntKind.i64.bits 1).toNat:Int)=e%2
 rw[h1,IntWalk.i64_in _ (by omega)]
 omega
theorem vz (q:Nat):fo q 0=q*2^1:=by
 unfold fo
 rw[if_pos rfl]
 omega
theorem Aj{q r:Nat}(h:r≠0):fo q r=q*2^1+1:=by
 unfold fo
 rw[if_neg h]
 omega
theorem nK (s:Bool)(a:Nat):sg s a=an s (a:Int):=by
 cases s
 ·rw[i8,bl]
 ·rw[r3,bn]
theorem yo (W:World):Rd (W.alloc (.cells #[.int .u32 1] 103)) (some ⟨W.heap.size,0,none⟩) 1 1 1:=
 ⟨_,[1],(bX.new W [1]).all (aR.cons (by decide) aR.nil) (by simp) (Nat.le_refl _),by decide⟩
theorem zA{w:World}{A:Option Addr}{n c q a0 a:Nat}{x r:Int}{σ up:Bool}(hT:dN w)(h:Nm w A n c q)(hn:n<=20000)(h0:q*2^1=a0)(h1:a0=a)(x1: -3000000<=x)(x2:x<=3000000)(hr:dM up (mk (sg σ a) (x-1)).1 (mk (sg σ a) (x-1)).2=r):Calls prog 205 #[.agg #[.slice A n c,.bool true,.int .i64 x],.bool σ,.bool up] w (PN w r):=by
 have v:=ie h0;have u:=ie h1;have y:=ie hr;have C:=iw (x-1);clear h0 h1 hr x1 x2
 go_enter func205,ntmps205
 go_upto_region 1 with fail
 generalize k:(w.alloc _).alloc _=w1 at *;obtain⟨j,g,f⟩:=Bo.en2 k;replace hT:=hT.below f.out;replace h:=h.below f.out;clear k;have i:=j.cell
 go_wp2_with fail
 refine(sy (s:=1) h.rd (by omega) (by decide) v.out).mono ?_;rintro L Q ⟨A2,n2,c2,rfl,p2,M,B⟩;clear i;refine dG ?_ j g hT h f B;clear j g hT h f B;intro j g hT h f;clear h
 obtain rfl:=u.out
 have i:=j.cell
 go_upto_region 4 with fail
 clear i;refine aV [0,1,2,3,4,5,6,7,8] [18,19,20,21,22,23,24,25,26,0] [[],[],[0,1],[],[3],[4],[2,5],[],[6,7],[]] 10 1 [Jo.qb σ,Jo.Fact.eq (.slice A2 n2 c2),Jo.Fact.wn (sg σ a0) 30000,Jo.qp w.heap.size 2,Jo.qi x,Jo.Fact.eq (.int .i64 (x-1)),Jo.Fact.dy (sg σ a0) (x-1) 30000,Jo.qb up,Jo.Fact.num r,Jo.Fact.any] ?_ ?_
 ·iterate 2 (refine jm ?_ ?_;rotate_left)
  refine jm ?_ ?_
  ·rintro l e _ rfl _ rfl K d;go_simp;exact Jo.w1 (ic σ (p2.b e).rd) d.out
  refine jm ?_ ?_;rotate_left
  refine jm ?_ ?_
  ·rintro l e _ rfl K d;have t:=(j.b e).a 2 (.int .i64 x) rfl;go_simp;exact d.out _ _ rfl (br _ _)
  refine jm ?_ ?_
  ·rintro l e _ rfl K d;have D:=C.out;go_simp
   exact d.out _ _ (by first | rfl | (show Value.int _ _=Value.int _ _;rw[D])) (br _ _)
  refine jm ?_ ?_
  ·rintro l e _ ⟨s7,A7,n7,c7,rfl,F,E⟩ _ rfl K d;go_simp;exact d.out _ _ ⟨s7,A7,n7,c7,rfl,F,E⟩ (br _ _)
  refine jm ?_ ?_;rotate_left
  refine jm ?_ ?_
  ·rintro l e _ ⟨P,I,O,J,rfl,G,N⟩ _ rfl K d;go_simp;exact Jo.n1 (yN (hT.b e) G.wr (by omega) rfl rfl y.out) d.out
  exact jo
  all_goals (rintro l e;(repeat rintro _ rfl);intro K d;go_simp;exact d.out _ _ rfl (br _ _))
 rintro R e _ rfl _ rfl _ ⟨_,_,_,_,rfl,_⟩ _ _ _ rfl _ rfl _ ⟨_,_,_,_,rfl,_⟩ _ rfl _ ⟨K9,s9,M9,E9,rfl,H⟩ -;simp only[Jo.z];replace g:=g.b e;replace f:=aj f e;have o:=g.cell;have m:=g.frozen
 refine jn 9 fun K d=>?_
 go_simp;refine d.out _ _ ?_;clear d K o m;have p:=ae.t4 g K9 s9 M9 E9;refine jd ?_;go_wp2;exact bq (by simp[results,results205,go_sem,p.box.cell]) rfl ⟨_,_,_,_,rfl,H,(p.below f.out (by omega))⟩
theorem zB{w:World}{A:Option Addr}{n c q a0 a:Nat}{x r:Int}{σ up:Bool}(hT:dN w)(h:Nm w A n c q)(hn:n<=20000)(h0:q*2^1=a0)(h1:a0+1=a)(x1: -3000000<=x)(x2:x<=3000000)(hr:dM up (mk (sg σ a) (x-1)).1 (mk (sg σ a) (x-1)).2=r):Calls prog 205 #[.agg #[.slice A n c,.bool false,.int .i64 x],.bool σ,.bool up] w (PN w r):=by
 have v:=ie h0;have u:=ie h1;have y:=ie hr;have C:=iw (x-1);clear h0 h1 hr x1 x2
 go_enter func205,ntmps205
 go_upto_region 1 with fail
 generalize k:(w.alloc _).alloc _=w1 at *;obtain⟨j,f,e⟩:=Bo.en2 k;replace hT:=hT.below e.out;replace h:=h.below e.out;clear k;have i:=j.cell
 go_wp2_with fail
 refine(sy (s:=1) h.rd (by omega) (by decide) v.out).mono ?_;rintro D L ⟨A2,n2,c2,rfl,p2,O,B⟩;clear i;refine dG ?_ j f hT h e B;clear j f hT h e B;intro j f hT h e;clear h;have i:=j.cell
 go_wp2_with fail
 refine(Hr (p2.below (ab _ _)).rd (yo L) (by omega) (by decide) u.out).mono ?_;rintro D T ⟨A4,n4,c4,rfl,G,P,B⟩;clear i;replace B:=bt (ab _ _) B;refine dk ?_ j f hT e B;clear j f hT e B;intro j f hT e;clear p2;have i:=j.cell
 go_upto_region 4 with fail
 clear i;refine aV [0,1,2,3,4,5,6,7,8] [18,19,20,21,22,23,24,25,26,0] [[],[],[0,1],[],[3],[4],[2,5],[],[6,7],[]] 10 1 [Jo.qb σ,Jo.Fact.eq (.slice A4 n4 c4),Jo.Fact.wn (sg σ a) 30000,Jo.qp w.heap.size 2,Jo.qi x,Jo.Fact.eq (.int .i64 (x-1)),Jo.Fact.dy (sg σ a) (x-1) 30000,Jo.qb up,Jo.Fact.num r,Jo.Fact.any] ?_ ?_
 ·iterate 2 (refine jm ?_ ?_;rotate_left)
  refine jm ?_ ?_
  ·rintro l g _ rfl _ rfl K d;go_simp;exact Jo.w1 (ic σ (G.b g).rd) d.out
  refine jm ?_ ?_;rotate_left
  refine jm ?_ ?_
  ·rintro l g _ rfl K d;have t:=(j.b g).a 2 (.int .i64 x) rfl;go_simp;exact d.out _ _ rfl (br _ _)
  refine jm ?_ ?_
  ·rintro l g _ rfl K d;have E:=C.out;go_simp
   exact d.out _ _ (by first | rfl | (show Value.int _ _=Value.int _ _;rw[E])) (br _ _)
  refine jm ?_ ?_
  ·rintro l g _ ⟨s7,A7,n7,c7,rfl,H,F⟩ _ rfl K d;go_simp;exact d.out _ _ ⟨s7,A7,n7,c7,rfl,H,F⟩ (br _ _)
  refine jm ?_ ?_;rotate_left
  refine jm ?_ ?_
  ·rintro l g _ ⟨S,M,R,N,rfl,I,Q⟩ _ rfl K d;go_simp;exact Jo.n1 (yN (hT.b g) I.wr (by omega) rfl rfl y.out) d.out
  exact jo
  all_goals (rintro l g;(repeat rintro _ rfl);intro K d;go_simp;exact d.out _ _ rfl (br _ _))
 rintro U g _ rfl _ rfl _ ⟨_,_,_,_,rfl,_⟩ _ _ _ rfl _ rfl _ ⟨_,_,_,_,rfl,_⟩ _ rfl _ ⟨K9,s9,M9,E9,rfl,J⟩ -;simp only[Jo.z];replace f:=f.b g;replace e:=aj e g;have o:=f.cell;have m:=f.frozen
 refine jn 9 fun K d=>?_
 go_simp;refine d.out _ _ ?_;clear d K o m;have p:=ae.t4 f K9 s9 M9 E9;refine jd ?_;go_wp2;exact bq (by simp[results,results205,go_sem,p.box.cell]) rfl ⟨_,_,_,_,rfl,J,(p.below e.out (by omega))⟩
theorem Fm{w:World}{A:Option Addr}{n c:Nat}{t σ up:Bool}{x r:Int}{P:Bool->Bool->Int->Prop}(hT:dN w)(h:Pk w A n c t x P)(hr:∀r',P σ up r'->r'=r):Calls prog 205 #[.agg #[.slice A n c,.bool t,.int .i64 x],.bool σ,.bool up] w (PN w r):=by
 obtain⟨q,d,a,f,ht,g,i,j⟩:=h;have e:=hr _ (j σ up);rw[<-nK]at e
 by_cases b:d=0
 ·subst b
  obtain rfl:true=t:=ht
  rw[vz]at e;exact zA hT a f rfl rfl g i e
 ·obtain rfl:false=t:=by rw[<-ht];exact(df b).symm
  rw[Aj b]at e;exact zB hT a f rfl rfl g i e
end Go.Proofs.YteigedaefgmojaaGreatDoor
namespace Go.Proofs.YteigedaefgmojaaGreatDoor
open Go.Proofs.Tryz
set_option maxHeartbeats 8000000
open Go.RowKit
set_option linter.unusedVariables false
set_option linter.unusedSimpArgs false
set_option maxRecDepth 100000
theorem vt{up s t:Bool}{z y r:Int}{α β:Nat}(hz:sg s α=z)(hy:sg t β=y)(hβ:0 < β)(hr:Rq up z y r):
  ∃P:Bool->Bool->Int->Prop,(∀σ up r',eZ up (an σ ((α:Int)*2^((0:Int)+(KK:Int)).toNat)) (β:Int) r'->P σ up r')/\(∀r',P (s !=t) up r'->r'=r):=by
 refine⟨_,fun _ _ _ h=>h,fun r' h=>?_⟩
 have:=DU hβ h
 rw[<-nK,<-nK,hz,hy]at this;exact this.uniq hr
theorem vv{up:Bool}{y r:Int}(hy:y≠0)(h:Rq up 0 y r):r=0:=by
 have h1:=(fm hy).1 h
 have e:an (decide (y < 0)) 0*2^KK=(0:Int):=by
  have:an (decide (y < 0)) (0:Int)=0:=by cases decide (y < 0) <;> rfl
  rw[this,Int.zero_mul]
 rw[e]at h1
 exact h1.uniq (nJ hy) (jE (r:=0) (nJ hy) (by decide) (by decide) (by rw[show vr 0=0 from rfl,Int.zero_mul]))
theorem Cl{w:World}{A B:Option Addr}{n c m d:Nat}{s t up:Bool}{z y r:Int}(hT:dN w)(h:Wr w s A n c z)(k:Wr w t B m d y)(hn:n<=3500)(hm:m<=3500)(hr:Rq up z y r):Calls prog 152 #[.agg #[.bool s,.slice A n c],.agg #[.bool t,.slice B m d],.bool up] w (PN w r):=by
 obtain⟨σ,I⟩:∃σ,ah y 0=σ:=⟨_,rfl⟩;obtain⟨τ,E⟩:∃τ,ah z 0=τ:=⟨_,rfl⟩;have O:=ie I;have J:=ie E
 go_enter func152,ntmps152
 go_upto_region 1 with fail
 generalize H:((w.alloc _).alloc _).alloc _=w1 at *;obtain⟨o,p,f,g⟩:=Bo.en3 H;replace hT:=hT.below g.out;replace h:=h.below g.out;replace k:=k.below g.out;clear H;have D:=p.cell
 go_wp2_with fail
 refine(fU k O.out).mono ?_;rintro R w2 ⟨rfl,B⟩;clear D;refine jP ?_ o p f hT h k g B;clear o p f hT h k g B;intro o p f hT h k g
 by_cases q:y=0
 ·have U:(σ==0)=true:=by rw[<-I,aT q];rfl
  subst q;have N:=ie (i7.1 hr).symm;clear h k hT hr I E O J
  go_wp2_with fail
  refine(GZ N.out).mono ?_;rintro R w6 ⟨K3,s3,M3,E3,rfl,q3,B⟩;refine dk ?_ o p f g B;clear o p f g B;intro o p f g;have v:=f.cell;have i:=f.frozen;go_wp2;clear v i;have x:=ae.t4 f K3 s3 M3 E3;exact bq (by simp[results,results152,go_sem,x.box.cell]) rfl ⟨_,_,_,_,rfl,q3,(x.below g.out (by omega))⟩
 ·have U:(σ==0)=false:=by
   have:σ≠0:=fun e=>q (dm.1 (I.trans e))
   simpa using this
  clear I O;have C:=o.cell
  go_wp2_with fail
  refine(fU h J.out).mono ?_;rintro R w3 ⟨rfl,B⟩;clear C;refine jP ?_ o p f hT h k g B;clear o p f hT h k g B;intro o p f hT h k g
  by_cases u:z=0
  ·have V:(τ==0)=true:=by rw[<-E,aT u];rfl
   subst u
   obtain rfl:=vv q hr
   clear h k hT hr E J;have v:=f.cell;have i:=f.frozen;have C:=o.cell;have D:=p.cell;go_wp2;clear v i C D;have x:=ae.t4 f 0 false 0 0;exact bq (by simp[results,results152,go_sem,x.box.cell]) rfl ⟨_,_,_,_,rfl,Fq.nought,(x.below g.out (by omega))⟩
  ·have V:(τ==0)=false:=by
    have:τ≠0:=fun e=>u (dm.1 (E.trans e))
    simpa using this
   clear E J;obtain⟨α,Y,hz⟩:=h;obtain⟨β,hb,hy⟩:=k
   have α0:0 < α:=by
    rcases Nat.eq_zero_or_pos α with e | e
    ·subst e
     exact absurd (show z=0 by rw[<-hz];cases s <;> rfl) u
    ·exact e
   have β0:0 < β:=by
    rcases Nat.eq_zero_or_pos β with e | e
    ·subst e
     exact absurd (show y=0 by rw[<-hy];cases t <;> rfl) q
    ·exact e
   obtain⟨P,X,G⟩:=vt hz hy β0 hr;have S:=Y.blen_le;have T:=hb.blen_le
   have Q:(0:Int)-((ac β:Int)-(ac α:Int)+64)<=2097152:=by omega
   have L:=ie X;have M:=ie G;clear X G hr hz hy u q S T
   go_upto_region 5 with fail
   refine aV [0,1,2,3,4,5,6,7,8,9,10,11] [19,20,21,22,23,24,25,26,27,28,29,30,0] [[],[0],[],[2],[1,3],[],[5],[],[7],[6,8],[],[4,9,10],[]] 13 1 [Jo.qp w.heap.size 1,Jo.Fact.eq (.slice A n c),Jo.qp (w.heap.size+1) 1,Jo.Fact.eq (.slice B m d),Jo.Fact.pk P,Jo.qp w.heap.size 0,Jo.qb s,Jo.qp (w.heap.size+1) 0,Jo.qb t,Jo.Fact.eq (.bool (s !=t)),Jo.qb up,Jo.Fact.num r,Jo.Fact.any] ?_ ?_
   ·refine jm ?_ ?_;rotate_left
    refine jm ?_ ?_
    ·rintro F j _ rfl K l;have bB:=(o.b j).a 1 (.slice A n c) rfl;go_simp;exact l.out _ _ rfl (br _ _)
    refine jm ?_ ?_;rotate_left
    refine jm ?_ ?_
    ·rintro F j _ rfl K l;have bD:=(p.b j).a 1 (.slice B m d) rfl;go_simp;exact l.out _ _ rfl (br _ _)
    refine jm ?_ ?_
    ·rintro F j _ rfl _ rfl K l;go_simp;refine(zw (Y.b j) (hb.b j) (by omega) (by omega) α0 β0 (by decide) (by decide) Q L.out).mono ?_;rintro R wk ⟨A7,n7,c7,Z,x7,rfl,W,B⟩;exact l.out _ _ ⟨A7,n7,c7,Z,x7,rfl,W⟩ B
    refine jm ?_ ?_;rotate_left
    refine jm ?_ ?_
    ·rintro F j _ rfl K l;have bA:=(o.b j).a 0 (.bool s) rfl;go_simp;exact l.out _ _ rfl (br _ _)
    refine jm ?_ ?_;rotate_left
    refine jm ?_ ?_
    ·rintro F j _ rfl K l;have bC:=(p.b j).a 0 (.bool t) rfl;go_simp;exact l.out _ _ rfl (br _ _)
    iterate 2 (refine jm ?_ ?_;rotate_left)
    refine jm ?_ ?_
    ·rintro F j _ ⟨A7,n7,c7,Z,x7,rfl,W⟩ _ rfl _ rfl K l;go_simp;exact Jo.n1 (Fm (hT.b j) W M.out) l.out
    exact jo
    all_goals (rintro F j;(repeat rintro _ rfl);intro K l;go_simp;exact l.out _ _ rfl (br _ _))
   rintro w8 j _ _ _ rfl _ _ _ rfl _ ⟨_,_,_,_,_,rfl,_⟩ _ _ _ rfl _ _ _ rfl _ rfl _ rfl _ ⟨K9,s9,M9,E9,rfl,q9⟩ -;simp only[Jo.z];replace f:=f.b j;replace g:=aj g j;have v:=f.cell;have i:=f.frozen
   refine jn 12 fun K l=>?_
   go_simp;refine l.out _ _ ?_;clear l K v i;have x:=ae.t4 f K9 s9 M9 E9;refine jd ?_;go_wp2;exact bq (by simp[results,results152,go_sem,x.box.cell]) rfl ⟨_,_,_,_,rfl,q9,(x.below g.out (by omega))⟩
theorem yf{w:World}{A B:Option Addr}{n c m d:Nat}{s t up:Bool}{z y r:Int}(hT:dN w)(h:Wr w s A n c z)(k:Wr w t B m d y)(hn:n<=20)(hm:m<=20)(hr:Rq up z y r):Calls prog 152 #[.agg #[.bool s,.slice A n c],.agg #[.bool t,.slice B m d],.bool up] w (PN w r):=Cl hT h k (by omega) (by omega) hr
theorem Bw{w:World}{n:Int}(h:n < 2):Calls prog 154 #[.int .i64 n] w (W2 w 1000000 0 0):=by
 have m:decide (n < 2)=true:=dt h
 go_enter func154,ntmps154
 go_upto_region 1 with fail
 generalize f:(w.alloc _).alloc _=w1 at *;obtain⟨b,c,d⟩:=Bo.en2 f;clear f;have j:=b.cell;have g:=b.frozen;have k:=c.cell;have i:=c.frozen;go_wp2;clear j g k i;generalize e:(w1.setCell _ _).setCell _ _=l at *;have a:=ae.of2 b e;replace c:=c.s a;replace d:=aP d a (by omega)
 replace b:=a.box;clear a e;generalize e:(l.setCell _ _).setCell _ _=o at *;have a:=ae.of2 c e;replace b:=b.s a;replace d:=aP d a (by omega);replace c:=a.box;clear a e;exact bq (v:= .tuple #[.agg #[.bool false,.slice none 0 0],.agg #[.bool false,.slice none 0 0]]) (by simp[results,results154,go_sem,b.cell,c.cell]) rfl ⟨_,_,_,_,_,_,_,_,rfl,⟨Nm.zero,rfl⟩,⟨Nm.zero,rfl⟩,Nat.zero_le _,Nat.zero_le _,d.out⟩
theorem Bu{w:World}{n:Int}(h:1000 < n):Calls prog 154 #[.int .i64 n] w (W2 w 1000000 0 0):=by
 have m:decide (n < 2)=false:=df (by omega)
 have o:decide (1000 < n)=true:=dt h
 go_enter func154,ntmps154
 go_upto_region 1 with fail
 generalize f:(w.alloc _).alloc _=w1 at *;obtain⟨b,c,d⟩:=Bo.en2 f;clear f;have j:=b.cell;have g:=b.frozen;have k:=c.cell;have i:=c.frozen;go_wp2;clear j g k i;generalize e:(w1.setCell _ _).setCell _ _=l at *;have a:=ae.of2 b e;replace c:=c.s a;replace d:=aP d a (by omega)
 replace b:=a.box;clear a e;generalize e:(l.setCell _ _).setCell _ _=p at *;have a:=ae.of2 c e;replace b:=b.s a;replace d:=aP d a (by omega);replace c:=a.box;clear a e;exact bq (v:= .tuple #[.agg #[.bool false,.slice none 0 0],.agg #[.bool false,.slice none 0 0]]) (by simp[results,results154,go_sem,b.cell,c.cell]) rfl ⟨_,_,_,_,_,_,_,_,rfl,⟨Nm.zero,rfl⟩,⟨Nm.zero,rfl⟩,Nat.zero_le _,Nat.zero_le _,d.out⟩
theorem Bv{w:World}{n:Int}(h1:2<=n)(h2:n<=1000){a b:Int}(hr:fF n=(a,b)):Calls prog 154 #[.int .i64 n] w (W2 w 1000000 a b):=by
 have t1:decide (n < 2)=false:=df (by omega)
 have t2:decide (1000 < n)=false:=df (by omega)
 obtain⟨R,U⟩:∃R,fO n 200 0 0 n=R:=⟨_,rfl⟩
 have k:R.1-((R.2:Int)+1)=a/\R.1+((R.2:Int)+1)=b:=by
  unfold fF at hr
  rw[if_neg (by omega),U]at hr
  injection hr with e1 e2
  exact⟨by omega,e2⟩
 have HR:=ie U;have HA:=ie k.1;have x:=ie k.2;clear hr U k
 go_enter func154,ntmps154
 go_upto_region 1 with fail
 generalize F:(w.alloc _).alloc _=w1 at *;obtain⟨d,c,e⟩:=Bo.en2 F;clear F;have G0:=c.lt
 go_wp2_with fail
 refine(Em h1 h2).mono ?_;rintro ee w2 ⟨gp,go,gb,s6,A6,n6,c6,s7,A7,n7,c7,rfl,XP,XO,XB,p6,p7,k6,k7,I,H,G,V,W,B⟩;refine aE ?_ d c e B;clear d c e B;intro d c e;clear t1 t2;have J:=e.out.size;have p:=d.lt;have q:=c.lt
 go_wp2_with fail
 refine(Ik XP XO XB p6 p7 k6 k7 I H G h1 h2 HR.out).mono ?_;rintro ee w3 ⟨s4,A4,n4,c4,rfl,h,k4,hk,B⟩;replace d:=d.duo B (by omega) (by omega);replace c:=c.duo B (by omega) (by omega);replace e:=ie (B.below e.out (by omega) (by omega) (by omega));clear B XP XO XB p6 p7 HR;clear V W I H G p q J G0;obtain⟨R1,T⟩:=R;simp only at h hk HA x|-
 go_upto_region 4 with fail
 have bB:=d.lt;have bC:=c.lt;generalize j:w3.alloc _=w4 at *;obtain⟨o,u⟩:=Bo.nw j;clear j;refine dk ?_ d c h e u;clear d c h e u;intro d c h e;have y:=iw ((T:Int)+1);have A:=jw ((T:Int)+1);have X:=y.out;have Y:=A.out
 go_wp2_with fail
 refine(dU ((T:Int)+1) _ (by omega) (by omega)).mono ?_;rintro ee w5 ⟨s5,A5,n5,c5,rfl,N,k5,B⟩;refine dG ?_ d c o h e B;clear d c o h e B;intro d c o h e;clear X Y y A;have J:=e.out.size
 go_upto_region 5 with fail
 have bH:=d.lt;have bN:=c.lt;have bD:=o.lt;generalize j:w5.alloc _=w6 at *;obtain⟨X6,u⟩:=Bo.nw j;clear j;refine jD ?_ d c o h N e u;clear d c o h N e u;intro d c o h N e;have p:=d.lt;have q:=c.lt;have gP:=o.lt;have gS:=X6.lt
 refine aV [0,1,2,3,4,5] [25,26,27,28,29,30,0,0] [[],[],[0,1],[],[],[3,4],[],[]] 8 2 [Jo.Fact.eq (.agg #[.bool s4,.slice A4 n4 c4]),Jo.Fact.eq (.agg #[.bool s5,.slice A5 n5 c5]),Jo.Fact.wn (a) (1000000),Jo.Fact.eq (.agg #[.bool s4,.slice A4 n4 c4]),Jo.Fact.eq (.agg #[.bool s5,.slice A5 n5 c5]),Jo.Fact.wn (b) (1000000),Jo.Fact.any,Jo.Fact.any] ?_ ?_
 ·iterate 2 (refine jm ?_ ?_;rotate_left)
  refine jm ?_ ?_
  ·rintro wj g _ rfl _ rfl K i;go_simp;exact Jo.w1 (q6 (h.b g).wr (N.b g).wr (by omega) (by omega) HA.out) i.out
  iterate 2 (refine jm ?_ ?_;rotate_left)
  refine jm ?_ ?_
  ·rintro wj g _ rfl _ rfl K i;go_simp;exact Jo.w1 (lR (h.b g).wr (N.b g).wr (by omega) (by omega) x.out) i.out
  exact jo
  all_goals (rintro wj g;(repeat rintro _ rfl);intro K i;have hA:=(o.b g).cell;have hB:=(X6.b g).cell;go_simp;exact i.out _ _ rfl (br _ _))
 rintro w9 g _ rfl _ rfl _ ⟨O,r,L,C,rfl,l,Z⟩ _ rfl _ rfl _ ⟨P,t,M,D,rfl,m,bA⟩ -;simp only[Jo.z];replace d:=d.b g;replace c:=c.b g;replace e:=aj e g;have gB:=d.cell;have Q:=d.frozen
 refine jn 6 fun K i=>?_
 go_simp;refine i.out _ _ ?_;clear i K gB Q;generalize E:(w9.setCell _ _).setCell _ _=wA at *;have f:=ae.of2 d E;replace c:=c.s f;replace l:=l.s f;replace m:=m.s f;replace e:=aP e f (by omega);replace d:=f.box;clear f E;have gO:=c.cell;have S:=c.frozen
 refine jn 7 fun K i=>?_
 go_simp;refine i.out _ _ ?_;clear i K gO S;generalize E:(wA.setCell _ _).setCell _ _=wB at *;have f:=ae.of2 c E;replace d:=d.s f;replace l:=l.s f;replace m:=m.s f;replace e:=aP e f (by omega);replace c:=f.box;clear f E;refine jd ?_;go_wp2;exact bq (v:= .tuple #[.agg #[.bool O,.slice r L C],.agg #[.bool P,.slice t M D]]) (by simp[results,results154,go_sem,d.cell,c.cell]) rfl ⟨O,r,L,C,P,t,M,D,rfl,l,m,Z,bA,e.out⟩
theorem Gt{w:World}{n a b:Int}(hr:fF n=(a,b)):Calls prog 154 #[.int .i64 n] w (W2 w 1000000 a b):=by
 by_cases h1:n < 2
 ·unfold fF at hr
  rw[if_pos (.inl h1)]at hr
  injection hr with e1 e2
  subst e1;subst e2;exact Bw h1
 ·by_cases h2:1000 < n
  ·unfold fF at hr
   rw[if_pos (.inr h2)]at hr
   injection hr with e1 e2
   subst e1;subst e2;exact Bu h2
  ·exact Bv (by omega) (by omega) hr
theorem Dz{w:World}{A:Option Addr}{n c:Nat}{s:Bool}{x:Int}{B:Option Addr}{m d:Nat}{t:Bool}{y:Int}{r:Int}(h:Wr w s A n c x)(k:Wr w t B m d y)(hn:n<=1000000)(hm:m<=1000000)(hr:16*x-4*y=r):Calls prog 155 #[.agg #[.bool s,.slice A n c],.agg #[.bool t,.slice B m d]] w (W1 w 10000000 r):=by
 have HR:=ie hr
 have H1:Hid (tZ [16,x]=16*x):=ie (by show 1*16*x=_;rw[Int.one_mul])
 have H2:Hid (tZ [4,y]=4*y):=ie (by show 1*4*y=_;rw[Int.one_mul])
 clear hr
 go_enter func155,ntmps155
 go_upto_region 1 with fail
 generalize u:((w.alloc _).alloc _).alloc _=w1 at *;obtain⟨X2,X3,p,q⟩:=Bo.en3 u;replace h:=h.below q.out;replace k:=k.below q.out;clear u;have gO:=X2.lt;have gP:=X3.lt;have gS:=p.lt;refine aV [0,1,2,3,4,5,6,7,8] [6,7,8,9,10,11,12,13,14,0] [[],[],[0,1],[2],[],[],[4,5],[6],[3,7],[]] 10 1 [Jo.Fact.wn (16) (2),Jo.Fact.eq (.agg #[.bool s,.slice A n c]),Jo.Fact.wl 1000000 2 [16,x],Jo.Fact.wn (16*x) (2000001),Jo.Fact.wn (4) (2),Jo.Fact.eq (.agg #[.bool t,.slice B m d]),Jo.Fact.wl 1000000 2 [4,y],Jo.Fact.wn (4*y) (2000001),Jo.Fact.wn (r) (10000000),Jo.Fact.any] ?_ ?_
 ·refine jm ?_ ?_
  ·rintro o e K a;go_simp;exact Jo.w1 (dU 16 _ (by decide) (by decide)) a.out
  refine jm ?_ ?_;rotate_left
  refine jm ?_ ?_
  ·rintro o e _ ⟨bC,H,Y,N,rfl,C,T⟩ _ rfl K a;go_simp;exact a.out _ _ ⟨_,_,rfl,Wl.lit2 rfl C.wr (h.b e) (by omega) (by omega)⟩ (ab _ _)
  refine jm ?_ ?_
  ·rintro o e _ ⟨hA,hC,rfl,R⟩ K a;go_simp;exact Jo.w1 (jp R (by decide) H1.out) a.out
  refine jm ?_ ?_
  ·rintro o e K a;go_simp;exact Jo.w1 (dU 4 _ (by decide) (by decide)) a.out
  refine jm ?_ ?_;rotate_left
  refine jm ?_ ?_
  ·rintro o e _ ⟨bH,J,bA,P,rfl,E,V⟩ _ rfl K a;go_simp;exact a.out _ _ ⟨_,_,rfl,Wl.lit2 rfl E.wr (k.b e) (by omega) (by omega)⟩ (ab _ _)
  refine jm ?_ ?_
  ·rintro o e _ ⟨hB,hD,rfl,S⟩ K a;go_simp;exact Jo.w1 (jp S (by decide) H2.out) a.out
  refine jm ?_ ?_
  ·rintro o e _ ⟨bD,I,Z,O,rfl,D,U⟩ _ ⟨bN,L,bB,Q,rfl,F,W⟩ K a;go_simp;exact Jo.w1 (q6 D.wr F.wr (by omega) (by omega) HR.out) a.out
  exact jo
  all_goals (rintro o e;(repeat rintro _ rfl);intro K a;have hE:=(X2.b e).cell;have hF:=(X3.b e).cell;go_simp;exact a.out _ _ rfl (br _ _))
 rintro w2 e _ ⟨bC,H,Y,N,rfl,C,T⟩ _ rfl _ ⟨_,_,rfl,_⟩ _ ⟨bD,I,Z,O,rfl,D,U⟩ _ ⟨bH,J,bA,P,rfl,E,V⟩ _ rfl _ ⟨_,_,rfl,_⟩ _ ⟨bN,L,bB,Q,rfl,F,W⟩ _ ⟨l,f,i,g,rfl,j,X⟩ -;simp only[Jo.z];replace p:=p.b e;replace q:=aj q e;clear h k;have gB:=p.cell;have G:=p.frozen
 refine jn 9 fun K a=>?_
 go_simp;refine a.out _ _ ?_;clear a K gB G;have M:=ae.t2 p l f i g;replace j:=j.s M;refine jd ?_;go_wp2;exact bq (v:= .agg #[.bool l,.slice f i g]) (by simp[results,results155,go_sem,M.box.cell]) rfl ⟨l,f,i,g,rfl,j,X,(M.below q.out (by omega))⟩
theorem Bt{w:World}:Calls prog 93 #[] w (W2 w 7 aH bW):=by
 obtain⟨Y,Z⟩:=kt;obtain⟨a,b,h5⟩:∃a b,fF 5=(a,b):=⟨_,_,rfl⟩;obtain⟨c,d,q⟩:∃a b,fF 239=(a,b):=⟨_,_,rfl⟩;rw[h5,q]at Y Z;have H5:=ie h5;have M:=ie q
 have V:Hid (16*a-4*d=aH):=ie (by rw[<-Y];omega)
 have W:Hid (16*b-4*c=bW):=ie (by rw[<-Z];omega)
 clear h5 q Y Z
 go_enter func93,ntmps93
 go_upto_region 1 with fail
 generalize O:(w.alloc _).alloc _=w1 at *;obtain⟨e,f,g⟩:=Bo.en2 O;clear O
 go_wp2_with fail
 refine(Gt H5.out).mono ?_;rintro ee R ⟨s2,A2,n2,c2,s3,A3,n3,c3,rfl,p2,m,k2,k3,B⟩;refine aE ?_ e f g B;clear e f g B;intro e f g;have hG:=g.out.size
 go_upto_region 2 with fail
 have F:(World.alloc R (.cells #[.bool s2,.slice A2 n2 c2] 43)).heap.size=R.heap.size+1:=by simp
 have bA:=e.lt;have bB:=f.lt;have l:=ab R (.cells #[.bool s2,.slice A2 n2 c2] 43);replace e:=e.b l;replace f:=f.b l;replace p2:=p2.b l;replace m:=m.b l;replace g:=ie (bt g.out l)
 have k:=Bo.new R #[.bool s2,.slice A2 n2 c2] 43;generalize h:World.alloc R (.cells #[.bool s2,.slice A2 n2 c2] 43)=w3 at *;clear h;have bD:=e.lt;have bH:=f.lt;have bC:=k.lt;generalize h:w3.alloc _=w4 at *;obtain⟨p,L⟩:=Bo.nw h;clear h;refine jD ?_ e f k p2 m g L;clear e f k p2 m g L;intro e f k p2 m g;rw[F]at p;clear F
 go_wp2_with fail
 refine(Gt M.out).mono ?_;rintro ee S ⟨s4,A4,n4,c4,s5,A5,n5,c5,rfl,H,I,k4,k5,B⟩;refine jP ?_ e f k p p2 m g B;clear e f k p p2 m g B;intro e f k p p2 m g;have hH:=g.out.size
 go_upto_region 3 with fail
 have G:(World.alloc S (.cells #[.bool s4,.slice A4 n4 c4] 43)).heap.size=S.heap.size+1:=by simp
 have gO:=e.lt;have gP:=f.lt;have bN:=k.lt;have gB:=p.lt;have l:=ab S (.cells #[.bool s4,.slice A4 n4 c4] 43);replace e:=e.b l;replace f:=f.b l;replace k:=k.b l;replace p:=p.b l;replace p2:=p2.b l
 replace m:=m.b l;replace H:=H.b l;replace I:=I.b l;replace g:=ie (bt g.out l);have J:=Bo.new S #[.bool s4,.slice A4 n4 c4] 43;generalize h:World.alloc S (.cells #[.bool s4,.slice A4 n4 c4] 43)=w6 at *
 clear h;have hC:=e.lt;have hD:=f.lt;have gS:=k.lt;have hA:=p.lt;have hB:=J.lt;generalize h:w6.alloc _=w7 at *;obtain⟨X,L⟩:=Bo.nw h;clear h;refine jW ?_ e f k p J p2 m H I g L;clear e f k p J p2 m H I g L;intro e f k p J p2 m H I g;rw[G]at X;clear G;have hP:=e.lt;have hQ:=f.lt;have hI:=k.lt;have hL:=p.lt;have hM:=J.lt;have hN:=X.lt;refine aV [0,1,2,3,4,5] [15,16,17,18,19,20,0,0] [[],[],[0,1],[],[],[3,4],[],[]] 8 2 [Jo.Fact.eq (.agg #[.bool s2,.slice A2 n2 c2]),Jo.Fact.eq (.agg #[.bool s5,.slice A5 n5 c5]),Jo.Fact.wn (aH) (7),Jo.Fact.eq (.agg #[.bool s3,.slice A3 n3 c3]),Jo.Fact.eq (.agg #[.bool s4,.slice A4 n4 c4]),Jo.Fact.wn (bW) (7),Jo.Fact.any,Jo.Fact.any] ?_ ?_
 ·iterate 2 (refine jm ?_ ?_;rotate_left)
  refine jm ?_ ?_
  ·rintro wj n _ rfl _ rfl K r;go_simp;refine(Dz (p2.b n).wr (I.b n).wr k2 k5 V.out).mono ?_;rintro ee wk ⟨D,t,A,x,rfl,i,P,B⟩;exact r.out _ _ ⟨D,t,A,x,rfl,i,i.fits (by decide)⟩ B
  iterate 2 (refine jm ?_ ?_;rotate_left)
  refine jm ?_ ?_
  ·rintro wj n _ rfl _ rfl K r;go_simp;refine(Dz (m.b n).wr (H.b n).wr k3 k4 W.out).mono ?_;rintro ee wk ⟨E,u,C,y,rfl,j,Q,B⟩;exact r.out _ _ ⟨E,u,C,y,rfl,j,j.fits (by decide)⟩ B
  exact jo
  all_goals (rintro wj n;(repeat rintro _ rfl);intro K r;have hR:=(k.b n).cell;have hV:=(X.b n).cell;have hT:=(p.b n).cell;have hU:=(J.b n).cell;go_simp;exact r.out _ _ rfl (br _ _))
 rintro w8 n _ rfl _ rfl _ ⟨D,t,A,x,rfl,i,P⟩ _ rfl _ rfl _ ⟨E,u,C,y,rfl,j,Q⟩ -;simp only[Jo.z];replace e:=e.b n;replace f:=f.b n;replace g:=aj g n;clear p2 m H I;have hE:=e.cell;have T:=e.frozen
 refine jn 6 fun K r=>?_
 go_simp;refine r.out _ _ ?_;clear r K hE T;generalize N:(w8.setCell _ _).setCell _ _=w9 at *;have o:=ae.of2 e N;replace f:=f.s o;replace i:=i.s o;replace j:=j.s o;replace g:=aP g o (by omega);replace e:=o.box;clear o N;have hF:=f.cell;have U:=f.frozen
 refine jn 7 fun K r=>?_
 go_simp;refine r.out _ _ ?_;clear r K hF U;generalize N:(w9.setCell _ _).setCell _ _=wA at *;have o:=ae.of2 f N;replace e:=e.s o;replace i:=i.s o;replace j:=j.s o;replace g:=aP g o (by omega);replace f:=o.box;clear o N;refine jd ?_;go_wp2;exact bq (v:= .tuple #[.agg #[.bool D,.slice t A x],.agg #[.bool E,.slice u C y]]) (by simp[results,results93,go_sem,e.cell,f.cell]) rfl ⟨D,t,A,x,E,u,C,y,rfl,i,j,P,Q,g.out⟩
theorem Gu{w:World}{A:Option Addr}{n c:Nat}{s:Bool}{x:Int}{B:Option Addr}{m d:Nat}{t:Bool}{y:Int}{r u:Int}{z:Sp}(hT:dN w)(h:Wr w s A n c x)(k:Wr w t B m d y)(hn:n<=20)(hm:m<=20)(hr:Rq false x SC r)(hu:Rq true y SC u)(hz:du r u=z):Calls prog 92 #[.agg #[.bool s,.slice A n c],.agg #[.bool t,.slice B m d]] w (PV w z):=by
 have HR:=ie hr;have HU:=ie hu;have HZ:=ie hz;clear hr hu hz
 go_enter func92,ntmps92
 go_upto_region 1 with fail
 generalize q:((w.alloc _).alloc _).alloc _=w1 at *;obtain⟨X2,X3,j,i⟩:=Bo.en3 q;replace hT:=hT.below i.out;replace h:=h.below i.out;replace k:=k.below i.out;clear q;have gB:=X2.lt;have gO:=X3.lt;have gP:=j.lt;refine aV [0,1,2,3,4,5,6] [6,7,8,9,10,11,12,0] [[],[],[0,1],[],[],[3,4],[2,5],[]] 8 1 [Jo.Fact.eq (.agg #[.bool s,.slice A n c]),Jo.Fact.wn (SC) (8),Jo.Fact.num r,Jo.Fact.eq (.agg #[.bool t,.slice B m d]),Jo.Fact.wn (SC) (8),Jo.Fact.num u,Jo.Fact.iv z,Jo.Fact.any] ?_ ?_
 ·refine jm ?_ ?_;rotate_left
  refine jm ?_ ?_
  ·rintro E a K e;go_simp;exact Jo.w1 (ik) e.out
  refine jm ?_ ?_
  ·rintro E a _ rfl _ ⟨Z,G,X,S,rfl,v,V⟩ K e;go_simp;exact Jo.n1 (yf (hT.b a) (h.b a) v.wr hn (by omega) HR.out) e.out
  refine jm ?_ ?_;rotate_left
  refine jm ?_ ?_
  ·rintro E a K e;go_simp;exact Jo.w1 (ik) e.out
  refine jm ?_ ?_
  ·rintro E a _ rfl _ ⟨bB,H,Y,T,rfl,C,W⟩ K e;go_simp;exact Jo.n1 (yf (hT.b a) (k.b a) C.wr hm (by omega) HU.out) e.out
  refine jm ?_ ?_
  ·rintro E a _ ⟨M,bA,P,I,rfl,f⟩ _ ⟨N,bC,Q,J,rfl,g⟩ K e;go_simp;exact Jo.v1 (gj f.top g.top f.rk g.rk HZ.out) e.out
  exact jo
  all_goals (rintro E a;(repeat rintro _ rfl);intro K e;have gS:=(X2.b a).cell;have hA:=(X3.b a).cell;go_simp;exact e.out _ _ rfl (br _ _))
 rintro w2 a _ rfl _ ⟨Z,G,X,S,rfl,v,V⟩ _ ⟨M,bA,P,I,rfl,f⟩ _ rfl _ ⟨bB,H,Y,T,rfl,C,W⟩ _ ⟨N,bC,Q,J,rfl,g⟩ _ ⟨U,O,bD,R,L,o,D,p,l,rfl,bH⟩ -;simp only[Jo.z];replace j:=j.b a;replace i:=aj i a;clear h k hT;have bN:=j.cell
 have F:=j.frozen
 refine jn 7 fun K e=>?_
 go_simp;refine e.out _ _ ?_;clear e K bN F;have SX:=ae.t9 j U O bD R L o D p l;refine jd ?_;go_wp2;exact bq (by simp[results,results92,go_sem,SX.box.cell]) rfl ⟨_,_,_,_,_,_,_,_,_,rfl,bH,(SX.below i.out (by omega))⟩
theorem Gs{w:World}{D M E:Int}{s:Bool}{x z:Int}{t:Bool}(hT:dN w)(h0:0<=M)(hM:LQ M)(hx:rk D s M E=x)(hz:ak x=z)(ht:aD x=t):Calls prog 119 #[VQ D s M E] w (WB w 140000 z t):=by
 delta VQ
 obtain⟨m,hm⟩:∃m,nk [x,-x]=m:=⟨_,rfl⟩;obtain⟨σ,hσ⟩:∃σ,ah m (al 1073741824)=σ:=⟨_,rfl⟩;have f:=xy ((CC (hx▸(Hb hM).1)).symm.trans hm) hσ;rw[ht]at f;have W:=ie hx;have HZ:=ie hz;have i:=ie ht;have p:=ie hm;have HC:=ie hσ;have o:=ie f;clear hx hz ht hm hσ f
 go_enter func119,ntmps119
 go_upto_region 1 with fail
 generalize bD:(w.alloc _).alloc _=w1 at *;obtain⟨q,d,e⟩:=Bo.en2 bD;replace hT:=hT.below e.out;clear bD;have hE:=q.lt;have hF:=d.lt
 cases t
 ·obtain rfl:0=z:=by rw[<-HZ.out,mU i.out]
  clear HZ i;refine aV [0,1,2,3,4,5,6,7] [7,8,9,10,11,12,13,14] [[],[],[1],[0,2],[3],[],[4,5],[6]] 8 0 [Jo.q4 D s M E,Jo.q4 D s M E,Jo.Fact.num (-x),Jo.Fact.nl 2 [x,-x],Jo.Fact.num m,Jo.Fact.num (al 1073741824),Jo.qi σ,Jo.qb true] ?_ ?_
  ·iterate 2 (refine jm ?_ ?_;rotate_left)
   refine jm ?_ ?_
   ·rintro h c _ rfl K a;go_simp;exact Jo.n1 (EY hM (by rw[W.out])) a.out
   refine jm ?_ ?_
   ·rintro h c _ rfl _ ⟨A,g,H,r,rfl,j⟩ K a;go_simp;exact a.out _ _ ⟨_,2,rfl,Nl.lit2 rfl hM j.top W.out j.rk⟩ (ab _ _)
   refine jm ?_ ?_
   ·rintro h c _ ⟨gO,hB,rfl,L⟩ K a;go_simp;exact Jo.n1 (rM L p.out) a.out
   refine jm ?_ ?_
   ·rintro h c K a;go_simp;exact Jo.n1 (qf _ (by decide) (by decide) rfl) a.out
   refine jm ?_ ?_
   ·rintro h c _ ⟨C,S,I,u,rfl,k⟩ _ ⟨F,T,J,y,rfl,l⟩ K a;go_simp;refine(iR (z:=σ) k.top l.top (by rw[k.rk,l.rk];exact HC.out)).mono ?_;rintro ee wk ⟨rfl,B⟩;exact a.out _ _ rfl B
   refine jm ?_ ?_
   ·rintro h c _ rfl K a;have f:=o.out;go_simp
    exact a.out _ _ (by first | rfl | (show Value.bool _=Value.bool _;rw[f];rfl) | simp_all) (br _ _)
   exact jo
   all_goals (rintro h c;(repeat rintro _ rfl);intro K a;have U:=(q.b c).cell;go_simp;exact a.out _ _ rfl (br _ _))
  rintro w2 c _ rfl _ rfl _ ⟨A,g,H,r,rfl,_⟩ _ ⟨_,_,rfl,_⟩ _ ⟨C,S,I,u,rfl,_⟩ _ ⟨F,T,J,y,rfl,_⟩ _ rfl _ rfl -;simp only[Jo.z];replace q:=q.b c;replace d:=d.b c;replace hT:=hT.b c;replace e:=aj e c;refine jd ?_;clear HC o p;clear hT;have V:=d.cell;have n:=d.frozen
  go_wp2;clear V n;have X:=ae.t2 d false none 0 0;exact bq (v:= .tuple #[.agg #[.bool false,.slice none 0 0],.bool false]) (by simp[results,results119,go_sem,X.box.cell]) rfl ⟨_,_,_,_,rfl,⟨Nm.zero,rfl⟩,Nat.zero_le _,(X.below e.out (by omega))⟩
 ·obtain⟨N,G,hN,hG,nf,hv,gB,g1,g2⟩:=BM hM W.out i.out;obtain⟨bb,hb⟩:∃b,lJ D s M E=b:=⟨_,rfl⟩;obtain⟨P,hP⟩:∃P,(EW (mk N G) 192).1=P:=⟨_,rfl⟩;obtain⟨Q,hQ⟩:∃P,(EW (mk N G) 192).2=P:=⟨_,rfl⟩;have O:=xz nf hv gB g1 g2 i.out hP hQ;rw[HZ.out]at O;have gP:=ie O;have gS:=ie hP;have hA:=ie hQ;have Z:=ie hb
  have bB:=ie hN;have bA:=ie hG;clear O hP hQ hb hN hG nf hv gB g1 g2 HZ i;refine aV [0,1,2,3,4,5,6,7] [7,8,9,10,11,12,13,14] [[],[],[1],[0,2],[3],[],[4,5],[6]] 8 0 [Jo.q4 D s M E,Jo.q4 D s M E,Jo.Fact.num (-x),Jo.Fact.nl 2 [x,-x],Jo.Fact.num m,Jo.Fact.num (al 1073741824),Jo.qi σ,Jo.qb false] ?_ ?_
  ·iterate 2 (refine jm ?_ ?_;rotate_left)
   refine jm ?_ ?_
   ·rintro h c _ rfl K a;go_simp;exact Jo.n1 (EY hM (by rw[W.out])) a.out
   refine jm ?_ ?_
   ·rintro h c _ rfl _ ⟨A,g,H,r,rfl,j⟩ K a;go_simp;exact a.out _ _ ⟨_,2,rfl,Nl.lit2 rfl hM j.top W.out j.rk⟩ (ab _ _)
   refine jm ?_ ?_
   ·rintro h c _ ⟨gO,hB,rfl,L⟩ K a;go_simp;exact Jo.n1 (rM L p.out) a.out
   refine jm ?_ ?_
   ·rintro h c K a;go_simp;exact Jo.n1 (qf _ (by decide) (by decide) rfl) a.out
   refine jm ?_ ?_
   ·rintro h c _ ⟨C,S,I,u,rfl,k⟩ _ ⟨F,T,J,y,rfl,l⟩ K a;go_simp;refine(iR (z:=σ) k.top l.top (by rw[k.rk,l.rk];exact HC.out)).mono ?_;rintro ee wk ⟨rfl,B⟩;exact a.out _ _ rfl B
   refine jm ?_ ?_
   ·rintro h c _ rfl K a;have f:=o.out;go_simp
    exact a.out _ _ (by first | rfl | (show Value.bool _=Value.bool _;rw[f];rfl) | simp_all) (br _ _)
   exact jo
   all_goals (rintro h c;(repeat rintro _ rfl);intro K a;have U:=(q.b c).cell;go_simp;exact a.out _ _ rfl (br _ _))
  rintro w2 c _ rfl _ rfl _ ⟨A,g,H,r,rfl,_⟩ _ ⟨_,_,rfl,_⟩ _ ⟨C,S,I,u,rfl,_⟩ _ ⟨F,T,J,y,rfl,_⟩ _ rfl _ rfl -;simp only[Jo.z];replace q:=q.b c;replace d:=d.b c;replace hT:=hT.b c;replace e:=aj e c;refine jd ?_;clear HC o p;have U:=q.cell
  go_wp2_with fail
  refine(EX hT h0 hM Z.out bB.out bA.out).mono ?_;rintro ee w3 ⟨s5,A5,n5,c5,rfl,p5,k5,B⟩;clear U;refine aE ?_ d hT e B;clear d hT e B;intro d hT e
  go_upto_region 4 with fail
  have hC:=d.lt;generalize bH:w3.alloc _=w4 at *;obtain⟨X5,BW⟩:=Bo.nw bH;clear bH;refine dk ?_ d hT p5 e BW;clear d hT p5 e BW;intro d hT p5 e;clear Z bB bA W;have hD:=X5.cell
  go_wp2_with fail
  refine(Gy hT p5.wr (by omega) (by decide) (by decide) gS.out hA.out).mono ?_;rintro ee w5 ⟨s6,A6,n6,c6,rfl,p6,k6,B⟩;clear hD;refine aE ?_ d hT e B;clear d hT e B;intro d hT e;clear p5
  go_wp2_with fail
  refine(Et hT p6.wr (by omega) gP.out).mono ?_;rintro ee w6 ⟨g,Y,bN,bC,rfl,R,hH,B⟩;replace d:=d.b B;replace e:=aj e B;clear B;clear p6 hT;have V:=d.cell;have n:=d.frozen;go_wp2;clear V n;have X:=ae.t2 d g Y bN bC;replace R:=R.s X;exact bq (v:= .tuple #[.agg #[.bool g,.slice Y bN bC],.bool true]) (by simp[results,results119,go_sem,X.box.cell]) rfl ⟨_,_,_,_,rfl,R,by omega,(X.below e.out (by omega))⟩
theorem ae.mk6{w:World}{g:Nat}{T:TypeId}{a0 a1 a2 a3 a4 a5:Value}(X:Bo w g #[a0,a1,a2,a3,a4,a5] T)(v0 v1 v2 v3 v4 v5:Value):
  ae w ((((((w.setCell ⟨g,0,none⟩ v0).setCell ⟨g,1,none⟩ v1).setCell ⟨g,2,none⟩ v2).setCell ⟨g,3,none⟩ v3).setCell ⟨g,4,none⟩ v4).setCell ⟨g,5,none⟩ v5) g #[a0,a1,a2,a3,a4,a5] #[v0,v1,v2,v3,v4,v5] T:=by
 have b:ae w (w.setCell ⟨g,0,none⟩ v0) g #[a0,a1,a2,a3,a4,a5] #[v0,a1,a2,a3,a4,a5] T:=ae.at4 X 0 v0
 have a:=b
 have c:ae (w.setCell ⟨g,0,none⟩ v0) ((w.setCell ⟨g,0,none⟩ v0).setCell ⟨g,1,none⟩ v1) g #[v0,a1,a2,a3,a4,a5] #[v0,v1,a2,a3,a4,a5] T:=ae.at4 a.box 1 v1
 have s1:=a.trans c
 have d:ae ((w.setCell ⟨g,0,none⟩ v0).setCell ⟨g,1,none⟩ v1) (((w.setCell ⟨g,0,none⟩ v0).setCell ⟨g,1,none⟩ v1).setCell ⟨g,2,none⟩ v2) g #[v0,v1,a2,a3,a4,a5] #[v0,v1,v2,a3,a4,a5] T:=ae.at4 s1.box 2 v2
 have s2:=s1.trans d
 have e:ae (((w.setCell ⟨g,0,none⟩ v0).setCell ⟨g,1,none⟩ v1).setCell ⟨g,2,none⟩ v2) ((((w.setCell ⟨g,0,none⟩ v0).setCell ⟨g,1,none⟩ v1).setCell ⟨g,2,none⟩ v2).setCell ⟨g,3,none⟩ v3) g #[v0,v1,v2,a3,a4,a5] #[v0,v1,v2,v3,a4,a5] T:=ae.at4 s2.box 3 v3
 have s3:=s2.trans e
 have f:ae ((((w.setCell ⟨g,0,none⟩ v0).setCell ⟨g,1,none⟩ v1).setCell ⟨g,2,none⟩ v2).setCell ⟨g,3,none⟩ v3) (((((w.setCell ⟨g,0,none⟩ v0).setCell ⟨g,1,none⟩ v1).setCell ⟨g,2,none⟩ v2).setCell ⟨g,3,none⟩ v3).setCell ⟨g,4,none⟩ v4) g #[v0,v1,v2,v3,a4,a5] #[v0,v1,v2,v3,v4,a5] T:=ae.at4 s3.box 4 v4
 have s4:=s3.trans f
 have h:ae (((((w.setCell ⟨g,0,none⟩ v0).setCell ⟨g,1,none⟩ v1).setCell ⟨g,2,none⟩ v2).setCell ⟨g,3,none⟩ v3).setCell ⟨g,4,none⟩ v4) ((((((w.setCell ⟨g,0,none⟩ v0).setCell ⟨g,1,none⟩ v1).setCell ⟨g,2,none⟩ v2).setCell ⟨g,3,none⟩ v3).setCell ⟨g,4,none⟩ v4).setCell ⟨g,5,none⟩ v5) g #[v0,v1,v2,v3,v4,a5] #[v0,v1,v2,v3,v4,v5] T:=ae.at4 s4.box 5 v5
 have s5:=s4.trans h;exact s5
theorem ae.mk10{w:World}{g:Nat}{T:TypeId}{a0 a1 a2 a3 a4 a5 a6 a7 a8 a9:Value}(X:Bo w g #[a0,a1,a2,a3,a4,a5,a6,a7,a8,a9] T)(v0 v1 v2 v3 v4 v5 v6 v7 v8 v9:Value):
  ae w ((((((((((w.setCell ⟨g,0,none⟩ v0).setCell ⟨g,1,none⟩ v1).setCell ⟨g,2,none⟩ v2).setCell ⟨g,3,none⟩ v3).setCell ⟨g,4,none⟩ v4).setCell ⟨g,5,none⟩ v5).setCell ⟨g,6,none⟩ v6).setCell ⟨g,7,none⟩ v7).setCell ⟨g,8,none⟩ v8).setCell ⟨g,9,none⟩ v9) g #[a0,a1,a2,a3,a4,a5,a6,a7,a8,a9] #[v0,v1,v2,v3,v4,v5,v6,v7,v8,v9] T:=by
 have c:ae w (w.setCell ⟨g,0,none⟩ v0) g #[a0,a1,a2,a3,a4,a5,a6,a7,a8,a9] #[v0,a1,a2,a3,a4,a5,a6,a7,a8,a9] T:=ae.at4 X 0 v0
 have a:=c
 have d:ae (w.setCell ⟨g,0,none⟩ v0) ((w.setCell ⟨g,0,none⟩ v0).setCell ⟨g,1,none⟩ v1) g #[v0,a1,a2,a3,a4,a5,a6,a7,a8,a9] #[v0,v1,a2,a3,a4,a5,a6,a7,a8,a9] T:=ae.at4 a.box 1 v1
 have s1:=a.trans d
 have e:ae ((w.setCell ⟨g,0,none⟩ v0).setCell ⟨g,1,none⟩ v1) (((w.setCell ⟨g,0,none⟩ v0).setCell ⟨g,1,none⟩ v1).setCell ⟨g,2,none⟩ v2) g #[v0,v1,a2,a3,a4,a5,a6,a7,a8,a9] #[v0,v1,v2,a3,a4,a5,a6,a7,a8,a9] T:=ae.at4 s1.box 2 v2
 have s2:=s1.trans e
 have f:ae (((w.setCell ⟨g,0,none⟩ v0).setCell ⟨g,1,none⟩ v1).setCell ⟨g,2,none⟩ v2) ((((w.setCell ⟨g,0,none⟩ v0).setCell ⟨g,1,none⟩ v1).setCell ⟨g,2,none⟩ v2).setCell ⟨g,3,none⟩ v3) g #[v0,v1,v2,a3,a4,a5,a6,a7,a8,a9] #[v0,v1,v2,v3,a4,a5,a6,a7,a8,a9] T:=ae.at4 s2.box 3 v3
 have s3:=s2.trans f
 have h:ae ((((w.setCell ⟨g,0,none⟩ v0).setCell ⟨g,1,none⟩ v1).setCell ⟨g,2,none⟩ v2).setCell ⟨g,3,none⟩ v3) (((((w.setCell ⟨g,0,none⟩ v0).setCell ⟨g,1,none⟩ v1).setCell ⟨g,2,none⟩ v2).setCell ⟨g,3,none⟩ v3).setCell ⟨g,4,none⟩ v4) g #[v0,v1,v2,v3,a4,a5,a6,a7,a8,a9] #[v0,v1,v2,v3,v4,a5,a6,a7,a8,a9] T:=ae.at4 s3.box 4 v4
 have s4:=s3.trans h
 have i:ae (((((w.setCell ⟨g,0,none⟩ v0).setCell ⟨g,1,none⟩ v1).setCell ⟨g,2,none⟩ v2).setCell ⟨g,3,none⟩ v3).setCell ⟨g,4,none⟩ v4) ((((((w.setCell ⟨g,0,none⟩ v0).setCell ⟨g,1,none⟩ v1).setCell ⟨g,2,none⟩ v2).setCell ⟨g,3,none⟩ v3).setCell ⟨g,4,none⟩ v4).setCell ⟨g,5,none⟩ v5) g #[v0,v1,v2,v3,v4,a5,a6,a7,a8,a9] #[v0,v1,v2,v3,v4,v5,a6,a7,a8,a9] T:=ae.at4 s4.box 5 v5
 have s5:=s4.trans i
 have j:ae ((((((w.setCell ⟨g,0,none⟩ v0).setCell ⟨g,1,none⟩ v1).setCell ⟨g,2,none⟩ v2).setCell ⟨g,3,none⟩ v3).setCell ⟨g,4,none⟩ v4).setCell ⟨g,5,none⟩ v5) (((((((w.setCell ⟨g,0,none⟩ v0).setCell ⟨g,1,none⟩ v1).setCell ⟨g,2,none⟩ v2).setCell ⟨g,3,none⟩ v3).setCell ⟨g,4,none⟩ v4).setCell ⟨g,5,none⟩ v5).setCell ⟨g,6,none⟩ v6) g #[v0,v1,v2,v3,v4,v5,a6,a7,a8,a9] #[v0,v1,v2,v3,v4,v5,v6,a7,a8,a9] T:=ae.at4 s5.box 6 v6
 have s6:=s5.trans j
 have k:ae (((((((w.setCell ⟨g,0,none⟩ v0).setCell ⟨g,1,none⟩ v1).setCell ⟨g,2,none⟩ v2).setCell ⟨g,3,none⟩ v3).setCell ⟨g,4,none⟩ v4).setCell ⟨g,5,none⟩ v5).setCell ⟨g,6,none⟩ v6) ((((((((w.setCell ⟨g,0,none⟩ v0).setCell ⟨g,1,none⟩ v1).setCell ⟨g,2,none⟩ v2).setCell ⟨g,3,none⟩ v3).setCell ⟨g,4,none⟩ v4).setCell ⟨g,5,none⟩ v5).setCell ⟨g,6,none⟩ v6).setCell ⟨g,7,none⟩ v7) g #[v0,v1,v2,v3,v4,v5,v6,a7,a8,a9] #[v0,v1,v2,v3,v4,v5,v6,v7,a8,a9] T:=ae.at4 s6.box 7 v7
 have s7:=s6.trans k
 have l:ae ((((((((w.setCell ⟨g,0,none⟩ v0).setCell ⟨g,1,none⟩ v1).setCell ⟨g,2,none⟩ v2).setCell ⟨g,3,none⟩ v3).setCell ⟨g,4,none⟩ v4).setCell ⟨g,5,none⟩ v5).setCell ⟨g,6,none⟩ v6).setCell ⟨g,7,none⟩ v7) (((((((((w.setCell ⟨g,0,none⟩ v0).setCell ⟨g,1,none⟩ v1).setCell ⟨g,2,none⟩ v2).setCell ⟨g,3,none⟩ v3).setCell ⟨g,4,none⟩ v4).setCell ⟨g,5,none⟩ v5).setCell ⟨g,6,none⟩ v6).setCell ⟨g,7,none⟩ v7).setCell ⟨g,8,none⟩ v8) g #[v0,v1,v2,v3,v4,v5,v6,v7,a8,a9] #[v0,v1,v2,v3,v4,v5,v6,v7,v8,a9] T:=ae.at4 s7.box 8 v8
 have b:=s7.trans l
 have m:ae (((((((((w.setCell ⟨g,0,none⟩ v0).setCell ⟨g,1,none⟩ v1).setCell ⟨g,2,none⟩ v2).setCell ⟨g,3,none⟩ v3).setCell ⟨g,4,none⟩ v4).setCell ⟨g,5,none⟩ v5).setCell ⟨g,6,none⟩ v6).setCell ⟨g,7,none⟩ v7).setCell ⟨g,8,none⟩ v8) ((((((((((w.setCell ⟨g,0,none⟩ v0).setCell ⟨g,1,none⟩ v1).setCell ⟨g,2,none⟩ v2).setCell ⟨g,3,none⟩ v3).setCell ⟨g,4,none⟩ v4).setCell ⟨g,5,none⟩ v5).setCell ⟨g,6,none⟩ v6).setCell ⟨g,7,none⟩ v7).setCell ⟨g,8,none⟩ v8).setCell ⟨g,9,none⟩ v9) g #[v0,v1,v2,v3,v4,v5,v6,v7,v8,a9] #[v0,v1,v2,v3,v4,v5,v6,v7,v8,v9] T:=ae.at4 b.box 9 v9
 have s9:=b.trans m;exact s9
theorem ae.of6{w w1:World}{g:Nat}{T:TypeId}{a0 a1 a2 a3 a4 a5 v0 v1 v2 v3 v4 v5:Value}(X:Bo w g #[a0,a1,a2,a3,a4,a5] T)(h:(((((w.setCell ⟨g,0,none⟩ v0).setCell ⟨g,1,none⟩ v1).setCell ⟨g,2,none⟩ v2).setCell ⟨g,3,none⟩ v3).setCell ⟨g,4,none⟩ v4).setCell ⟨g,5,none⟩ v5=w1):ae w w1 g #[a0,a1,a2,a3,a4,a5] #[v0,v1,v2,v3,v4,v5] T:=h▸ae.mk6 X v0 v1 v2 v3 v4 v5
theorem ae.of10{w w1:World}{g:Nat}{T:TypeId}{a0 a1 a2 a3 a4 a5 a6 a7 a8 a9 v0 v1 v2 v3 v4 v5 v6 v7 v8 v9:Value}(X:Bo w g #[a0,a1,a2,a3,a4,a5,a6,a7,a8,a9] T)(h:((((((((((w.setCell ⟨g,0,none⟩ v0).setCell ⟨g,1,none⟩ v1).setCell ⟨g,2,none⟩ v2).setCell ⟨g,3,none⟩ v3).setCell ⟨g,4,none⟩ v4).setCell ⟨g,5,none⟩ v5).setCell ⟨g,6,none⟩ v6).setCell ⟨g,7,none⟩ v7).setCell ⟨g,8,none⟩ v8).setCell ⟨g,9,none⟩ v9)=w1):ae w w1 g #[a0,a1,a2,a3,a4,a5,a6,a7,a8,a9] #[v0,v1,v2,v3,v4,v5,v6,v7,v8,v9] T:=h▸ae.mk10 X v0 v1 v2 v3 v4 v5 v6 v7 v8 v9
