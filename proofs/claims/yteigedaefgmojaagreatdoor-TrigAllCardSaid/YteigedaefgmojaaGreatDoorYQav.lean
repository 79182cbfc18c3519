/-
 Contracts that the proof rests on.
-/
import Derived.Test.YteigedaefgmojaaGreatDoorYQau
namespace Go.Proofs.YteigedaefgmojaaGreatDoor
open Go.Proofs.Tryz
set_option maxHeartbeats 16000000
open Go.RowKit
set_option linter.unusedVariables false
set_option linter.unusedSimpArgs false
set_option maxRecDepth 100000
theorem Cg{w:World}{n:Int}(h:n < 2):Calls prog 138 #[.int .i64 n] w (W2 w 1000000 0 0):=by
 have I:decide (n < 2)=true:=dt h
 go_enter func138,ntmps138
 go_upto_region 1 with fail
 generalize j:(w.alloc _).alloc _=w1 at *;obtain⟨b,a,d⟩:=Bo.en2 j;clear j
 go_upto_region 2 with fail
 have o:=b.lt;have p:=a.lt;generalize k:w1.alloc _=L at *;obtain⟨i,u⟩:=Bo.nw k;clear k;refine aE ?_ b a d u;clear b a d u;intro b a d;have A:=b.lt;have B:=a.lt;have y:=i.lt
 go_upto_region 3 with fail
 refine Jo.rl (w.heap.size) #[.bool false,.slice none 0 0] 43 [0,1,2] [some 16,some 17,none,none] [[],[],[0],[]] 4 1 [Jo.LFact.eq (.agg #[.bool false,.slice none 0 0]),Jo.LFact.eq (.agg #[.bool false,.slice none 0 0]),Jo.LFact.done,Jo.LFact.any] (by kernel_rfl) (by kernel_rfl) (by decide) rfl ?_ ?_
 ·refine Jo.lm rfl ?_ ?_
  ·rintro q f K c;simp only[Jo.z]at c|-;replace i:=i.off (by omega) f;have r:=i.cell;go_simp;exact c.out _ _ rfl (Jo.Off.refl _ _ _ _)
  refine Jo.lm rfl ?_ ?_
  ·rintro q f K c;simp only[Jo.z]at c|-;replace i:=i.off (by omega) f;have r:=i.cell;go_simp;exact c.out _ _ rfl (Jo.Off.refl _ _ _ _)
  refine Jo.lm rfl ?_ ?_
  ·rintro q f _ rfl K c;simp only[Jo.z]at c|-
   obtain⟨C,D,m⟩:∃C D,Bo q (w.heap.size) #[C,D] 43:=by
    rcases f.own with e | e
    ·exact⟨_,_,b.keep e⟩
    ·exact⟨_,_,e⟩
   have H:=m.cell;have F:=m.frozen;go_simp;have g:=ae.t2 m false none 0 0;exact c.out undef _ g.box (Jo.Off.of_stn g)
  exact jo
 rintro E f _ rfl _ rfl J G -;simp only[Jo.z];replace d:=ie (f.below d.out (by omega) b.lt);replace a:=a.off (by omega) f
 replace b:Bo E (w.heap.size) #[.bool false,.slice none 0 0] 43:=G
 have t:=a.cell;have l:=a.frozen
 refine jn 3 fun K c=>?_
 go_simp;refine c.out _ _ ?_;clear c K t l;generalize x:(E.setCell _ _).setCell _ _=M at *;have g:=ae.of2 a x;replace b:=b.s g;replace d:=aP d g (by omega);replace a:=g.box;clear g x;refine jd ?_;go_wp2;exact bq (v:= .tuple #[.agg #[.bool false,.slice none 0 0],.agg #[.bool false,.slice none 0 0]]) (by simp[results,results138,go_sem,b.cell,a.cell]) rfl ⟨_,_,_,_,_,_,_,_,rfl,⟨Nm.zero,rfl⟩,⟨Nm.zero,rfl⟩,Nat.zero_le _,Nat.zero_le _,d.out⟩
theorem Ce{w:World}{n:Int}(h:1000 < n):Calls prog 138 #[.int .i64 n] w (W2 w 1000000 0 0):=by
 have I:decide (n < 2)=false:=df (by omega)
 have J:decide (1000 < n)=true:=dt h
 go_enter func138,ntmps138
 go_upto_region 1 with fail
 generalize j:(w.alloc _).alloc _=w1 at *;obtain⟨b,a,d⟩:=Bo.en2 j;clear j
 go_upto_region 2 with fail
 have o:=b.lt;have p:=a.lt;generalize k:w1.alloc _=M at *;obtain⟨i,u⟩:=Bo.nw k;clear k;refine aE ?_ b a d u;clear b a d u;intro b a d;have A:=b.lt;have B:=a.lt;have y:=i.lt
 go_upto_region 3 with fail
 refine Jo.rl (w.heap.size) #[.bool false,.slice none 0 0] 43 [0,1,2] [some 16,some 17,none,none] [[],[],[0],[]] 4 1 [Jo.LFact.eq (.agg #[.bool false,.slice none 0 0]),Jo.LFact.eq (.agg #[.bool false,.slice none 0 0]),Jo.LFact.done,Jo.LFact.any] (by kernel_rfl) (by kernel_rfl) (by decide) rfl ?_ ?_
 ·refine Jo.lm rfl ?_ ?_
  ·rintro q f K c;simp only[Jo.z]at c|-;replace i:=i.off (by omega) f;have r:=i.cell;go_simp;exact c.out _ _ rfl (Jo.Off.refl _ _ _ _)
  refine Jo.lm rfl ?_ ?_
  ·rintro q f K c;simp only[Jo.z]at c|-;replace i:=i.off (by omega) f;have r:=i.cell;go_simp;exact c.out _ _ rfl (Jo.Off.refl _ _ _ _)
  refine Jo.lm rfl ?_ ?_
  ·rintro q f _ rfl K c;simp only[Jo.z]at c|-
   obtain⟨C,D,m⟩:∃C D,Bo q (w.heap.size) #[C,D] 43:=by
    rcases f.own with e | e
    ·exact⟨_,_,b.keep e⟩
    ·exact⟨_,_,e⟩
   have H:=m.cell;have F:=m.frozen;go_simp;have g:=ae.t2 m false none 0 0;exact c.out undef _ g.box (Jo.Off.of_stn g)
  exact jo
 rintro E f _ rfl _ rfl L G -;simp only[Jo.z];replace d:=ie (f.below d.out (by omega) b.lt);replace a:=a.off (by omega) f
 replace b:Bo E (w.heap.size) #[.bool false,.slice none 0 0] 43:=G
 have t:=a.cell;have l:=a.frozen
 refine jn 3 fun K c=>?_
 go_simp;refine c.out _ _ ?_;clear c K t l;generalize x:(E.setCell _ _).setCell _ _=N at *;have g:=ae.of2 a x;replace b:=b.s g;replace d:=aP d g (by omega);replace a:=g.box;clear g x;refine jd ?_;go_wp2;exact bq (v:= .tuple #[.agg #[.bool false,.slice none 0 0],.agg #[.bool false,.slice none 0 0]]) (by simp[results,results138,go_sem,b.cell,a.cell]) rfl ⟨_,_,_,_,_,_,_,_,rfl,⟨Nm.zero,rfl⟩,⟨Nm.zero,rfl⟩,Nat.zero_le _,Nat.zero_le _,d.out⟩
def Gd (w:World)(n:Int)(R:Int × Nat)(g5 g6 k:Nat)(wr:World):Prop:=∃(s p:Int) (s5:Bool) (A5:Option Addr) (n5 c5:Nat) (s6:Bool) (A6:Option Addr) (n6 c6:Nat),Bo wr w.heap.size #[.bool false,.slice none 0 0] 43/\Bo wr (w.heap.size+1) #[.bool false,.slice none 0 0] 43/\Bo wr g5 #[.bool s5,.slice A5 n5 c5] 43/\Bo wr g6 #[.bool s6,.slice A6 n6 c6] 43/\Wn wr s5 A5 n5 c5 s/\Wn wr s6 A6 n6 c6 p/\n5<=1000*k/\n6<=2+4*k/\k<=100/\(2:Int)^(2*k+1)<=p/\fO n (200-k) k s p=R/\Below w.heap.size w wr
theorem oy{n p s:Int}{k:Nat}{R:Int × Nat}(hn:2<=n)(hk:k<=100)(hp:(2:Int)^(2*k+1)<=p)(h:fO n (200-k) k s p=R):∃T:Int,SC.fdiv (p*(2*(k:Int)+1))=T/\p*(2*(k:Int)+1)≠0/\0<=T/\(T=0->(s,k)=R)/\
  (T≠0->k+1<=100/\(2:Int)^(2*(k+1)+1)<=p*(n*n)/\fO n (200-(k+1)) (k+1) (if k%2=1 then s+ -T else s+T) (p*(n*n))=R):=by
 have p2:(0:Int) < 2^(2*k+1):=Int.pow_pos (by decide)
 have i:0 < p:=by omega
 have hd:0 < p*(2*(k:Int)+1):=Int.mul_pos i (by omega)
 have hf:SC.fdiv (p*(2*(k:Int)+1))=SC/ (p*(2*(k:Int)+1)):=Int.fdiv_eq_ediv_of_nonneg _ (by omega)
 refine⟨_,hf,by omega,Int.ediv_nonneg (by decide) (by omega),fun e=>?_,fun e=>?_⟩
 ·rw[show 200-k=(199-k)+1 by omega]at h
  unfold fO at h
  rw[if_pos e]at h;exact h
 ·rw[show 200-k=(200-(k+1))+1 by omega]at h
  unfold fO at h
  rw[if_neg e]at h
  have g:p*(2*(k:Int)+1)<=SC:=by
   rcases Int.lt_or_le SC (p*(2*(k:Int)+1))with c | c
   ·exact absurd (Int.ediv_eq_zero_of_lt (by decide) c) e
   ·exact c
  have f:p<=SC:=Int.le_trans (by
   have:p*1<=p*(2*(k:Int)+1):=Int.mul_le_mul_of_nonneg_left (by omega) (by omega)
   omega) g
  refine⟨?_,?_,h⟩
  ·rcases Nat.lt_or_ge k 100 with c | c
   ·omega
   ·exfalso
    have d:k=100:=by omega
    subst d
    have:(2:Int)^(2*100+1)<=SC:=Int.le_trans hp f
    revert this
    decide
  ·rw[show 2*(k+1)+1=(2*k+1)+2 by omega,Int.pow_add]
   have h4:(2:Int)^2<=n*n:=by
    have a:(2:Int)*2<=n*2:=Int.mul_le_mul_of_nonneg_right hn (by decide)
    have b:n*2<=n*n:=Int.mul_le_mul_of_nonneg_left hn (by omega)
    show (4:Int)<=n*n
    omega
   exact Int.mul_le_mul hp h4 (by decide) (by omega)
theorem Cf{w:World}{n:Int}(h1:2<=n)(h2:n<=1000){a b:Int}(hr:fF n=(a,b)):Calls prog 138 #[.int .i64 n] w (W2 w 1000000 a b):=by
 have t1:decide (n < 2)=false:=df (by omega)
 have t2:decide (1000 < n)=false:=df (by omega)
 obtain⟨R,hR⟩:∃R,fO n 200 0 0 n=R:=⟨_,rfl⟩
 have J:R.1+(-(R.2:Int)-1)=a/\R.1+((R.2:Int)+1)=b:=by
  unfold fF at hr
  rw[if_neg (by omega),hR]at hr
  injection hr with e1 e2
  exact⟨e1,e2⟩
 have HR:=ie hR;have HA:=ie J.1;have Y:=ie J.2
 have hP:Hid (IntKind.i64.wrap (n*n)=n*n):=ie (IntWalk.i64_in _ (by
  have a:(0:Int)<=n*n:=Int.mul_nonneg (by omega) (by omega)
  have b:n*n<=1000*1000:=Int.mul_le_mul h2 h2 (by omega) (by decide)
  omega))
 have Q:Hid (0<=n*n/\n*n<=1000000):=ie (by
  have a:(0:Int)<=n*n:=Int.mul_nonneg (by omega) (by omega)
  have b:n*n<=1000*1000:=Int.mul_le_mul h2 h2 (by omega) (by decide)
  exact⟨a,by omega⟩)
 clear hr hR J
 go_enter func138,ntmps138
 go_upto_region 1 with fail
 generalize xX:(w.alloc _).alloc _=w1 at *;obtain⟨d,e,g⟩:=Bo.en2 xX;clear xX
 go_upto_region 2 with fail
 have gB:=d.lt;have gO:=e.lt;generalize A:w1.alloc _=w2 at *;obtain⟨X4,V⟩:=Bo.nw A;clear A;refine aE ?_ d e g V;clear d e g V;intro d e g;have W:=d.lt;have X:=e.lt;have ET:=X4.lt;have JX:=X4.cell
 go_upto_region 5 with fail
 clear JX;have gP:=d.lt;have gS:=e.lt;generalize A:w2.alloc _=w3 at *;obtain⟨f,V⟩:=Bo.nw A;clear A;refine aE ?_ d e g V;clear d e g V;intro d e g
 go_wp2_with fail
 refine(fk n _ (by omega) (by omega)).mono ?_;rintro ee w4 ⟨s6,A6,n6,c6,rfl,j,k6,B⟩;refine dk ?_ d e f g B;clear d e f g B;intro d e f g;clear t1 t2
 go_upto_region 6 with fail
 have hC:=d.lt;have hD:=e.lt;have hA:=f.lt;generalize A:w4.alloc _=w5 at *;obtain⟨h,V⟩:=Bo.nw A;clear A;refine dG ?_ d e f j g V;clear d e f j g V;intro d e f j g
 have G1:w.heap.size < w2.heap.size/\w.heap.size+1 < w2.heap.size/\w2.heap.size < w4.heap.size:=⟨by omega,by omega,by omega⟩
 clear gB gO gP gS hC hD hA W X ET;generalize w2.heap.size=g5 at *;generalize w4.heap.size=g6 at *
 have qT:Gd w n R g5 g6 0 w5:=⟨0,n,_,_,_,_,_,_,_,_,d,e,f,h,⟨Nm.zero,rfl⟩,j,Nat.zero_le _,by omega,by decide,by simpa using h1,HR.out,g.out⟩
 have hN:=ie qT;clear qT d e X4 f h j g HR;go_wp2
 go_loopw [7] (fun i wr=>∃k:Nat,i= .int .i64 k/\Gd w n R g5 g6 k wr) (fun i _=>200-(intOf i).toNat)
 case atStart=>exact ⟨0,rfl,hN.out⟩
 case round=>
  obtain⟨k,rfl,s,p,s5,A5,n5,c5,s6,A6,n6,c6,d,e,f,h,u,j,k5,k6,hk,hp,hG,hB⟩:=hrel;have g:=ie hB;obtain⟨T,hT,zX,JE,hz,BX⟩:=oy h1 hk hp hG;have HT:=ie hT;have HZ:=ie hz;have Z:=ie BX
  have LN:decide ((k:Int) < 200)=true:=dt (by omega)
  have hU:=iw (2*(k:Int));have hV:=iw (2*(k:Int)+1);have hW:=jw (2*(k:Int)+1);clear hB hN hp hG hT hz BX
  go_upto_region 8 with fail
  have W:=d.lt;have X:=e.lt;have LA:=f.lt;have LB:=h.lt;refine aV [0,1,2,3,4,5,6,7] [24,25,26,27,28,29,30,9,0] [[],[],[],[2],[3],[1,4],[0,5],[],[]] 9 1 [Jo.Fact.wn (SC) (8),Jo.Fact.eq (.agg #[.bool s6,.slice A6 n6 c6]),Jo.qi k,Jo.Fact.eq (.int .i64 (2*(k:Int))),Jo.Fact.eq (.int .i64 (2*(k:Int)+1)),Jo.Fact.wn (p*(2*(k:Int)+1)) (n6+2),Jo.Fact.wn (T) (n6+20),Jo.Fact.bo wr.heap.size #[.bool false,.slice none 0 0] 43,Jo.Fact.any] ?_ ?_
  ·refine jm ?_ ?_
   ·rintro G q K m;go_simp;exact Jo.w1 (ix) m.out
   iterate 2 (refine jm ?_ ?_;rotate_left)
   refine jm ?_ ?_
   ·rintro G q _ rfl K m;have hw:=hU.out;go_simp
    exact m.out _ _ (by first | rfl | (show Value.int _ _=Value.int _ _;simp_all)) (br _ _)
   refine jm ?_ ?_
   ·rintro G q _ rfl K m;have hw:=hV.out;have LH:=hW.out;go_simp
    exact m.out _ _ (by first | rfl | (show Value.int _ _=Value.int _ _;simp_all)) (br _ _)
   refine jm ?_ ?_
   ·rintro G q _ rfl _ rfl K m;go_simp;exact Jo.w1 (dr (j.b q).wr (by omega) (by omega) (by omega) rfl) m.out
   refine jm ?_ ?_
   ·rintro G q _ ⟨JR,HK,JP,JA,rfl,hE,JF⟩ _ ⟨JS,HL,JQ,JB,rfl,hF,JG⟩ K m;go_simp;exact Jo.w1 (kB hE.wr hF.wr (by omega) (by omega) zX HT.out) m.out
   refine jm ?_ ?_
   ·rintro G q K m;go_simp;exact m.out _ _ ⟨_,rfl,q.size,Bo.new _ _ _⟩ (ab _ _)
   exact jo
   all_goals (rintro G q;(repeat rintro _ rfl);intro K m;have D:=(h.b q).cell;go_simp;exact m.out _ _ rfl (br _ _))
  rintro w6 q _ ⟨JR,HK,JP,JA,rfl,hE,JF⟩ _ rfl _ rfl _ rfl _ rfl _ ⟨JS,HL,JQ,JB,rfl,hF,JG⟩ _ ⟨LL,LC,LJ,LE,rfl,o,JH⟩ _ ⟨g8,rfl,LG,l⟩ -;simp only[Jo.z];replace d:=d.b q;replace e:=e.b q;replace f:=f.b q;replace h:=h.b q;replace u:=u.b q;replace j:=j.b q;replace g:=aj g q;have t:=l.cell
  have P:=l.frozen
  refine jn 8 fun K m=>?_
  go_simp;refine m.out _ _ ?_;clear m K t P;generalize x:(w6.setCell _ _).setCell _ _=w7 at *;have c:=ae.of2 l x;replace d:=d.s c;replace e:=e.s c;replace f:=f.s c;replace h:=h.s c;replace u:=u.s c;replace j:=j.s c;replace o:=o.s c
  replace g:=aP g c (by omega);replace l:=c.box;clear c x;refine jd ?_;clear HT hU hV hW hE hF zX
  by_cases hc:T=0
  ·have HS:Hid (ah T 0=0):=ie (by rw[hc];decide)
   have bD:=HZ.out hc
   have e1:R.1=s:=by rw[<-bD]
   have e2:R.2=k:=by rw[<-bD]
   have HO:Hid (s+(-(k:Int)-1)=a):=ie (by rw[<-e1,<-e2];exact HA.out)
   have HP:Hid (s+((k:Int)+1)=b):=ie (by rw[<-e1,<-e2];exact Y.out)
   clear HZ Z HA Y bD e1 e2;have t:=l.cell
   go_wp2_with fail
   refine(gv o.wr HS.out).mono ?_;rintro ee w8 ⟨rfl,B⟩;clear t;refine yI ?_ d e f h l u j o g B;clear d e f h l u j o g B;intro d e f h l u j o g;clear o j
   go_upto_region 15 with fail
   have HQ:=iw (-(k:Int));have HU:=iw (-(k:Int)-1);have HV:=iw ((k:Int)+1);have HW:=jw ((k:Int)+1);have HX:=jw (-(k:Int));have HY:=jw (-(k:Int)-1);refine aV [0,1,2,3,4,5,6,7,8,9,10] [49,50,51,52,53,54,55,56,57,58,59,0,0] [[],[],[1],[2],[3],[0,4],[],[],[7],[8],[6,9],[],[]] 13 2 [Jo.Fact.eq (.agg #[.bool s5,.slice A5 n5 c5]),Jo.qi k,Jo.Fact.eq (.int .i64 (-(k:Int))),Jo.Fact.eq (.int .i64 (-(k:Int)-1)),Jo.Fact.wn (-(k:Int)-1) (2),Jo.Fact.wn (a) (1000000),Jo.Fact.eq (.agg #[.bool s5,.slice A5 n5 c5]),Jo.qi k,Jo.Fact.eq (.int .i64 ((k:Int)+1)),Jo.Fact.wn ((k:Int)+1) (2),Jo.Fact.wn (b) (1000000),Jo.Fact.any,Jo.Fact.any] ?_ ?_
   ·iterate 2 (refine jm ?_ ?_;rotate_left)
    refine jm ?_ ?_
    ·rintro G q _ rfl K m;have hw:=HQ.out;have U:=HX.out;go_simp
     exact m.out _ _ (by first | rfl | (show Value.int _ _=Value.int _ _;simp_all)) (br _ _)
    refine jm ?_ ?_
    ·rintro G q _ rfl K m;have hw:=HU.out;have LI:=HY.out;go_simp
     exact m.out _ _ (by first | rfl | (show Value.int _ _=Value.int _ _;simp_all)) (br _ _)
    refine jm ?_ ?_
    ·rintro G q _ rfl K m;go_simp;exact Jo.w1 (fk _ _ (by omega) (by omega)) m.out
    refine jm ?_ ?_
    ·rintro G q _ rfl _ ⟨s30,A30,n30,c30,rfl,HE,JL⟩ K m;go_simp;exact Jo.w1 (fS (u.b q).wr HE.wr (by omega) (by omega) HO.out) m.out
    iterate 2 (refine jm ?_ ?_;rotate_left)
    refine jm ?_ ?_
    ·rintro G q _ rfl K m;have hw:=HV.out;have S:=HW.out;go_simp
     exact m.out _ _ (by first | rfl | (show Value.int _ _=Value.int _ _;simp_all)) (br _ _)
    refine jm ?_ ?_
    ·rintro G q _ rfl K m;go_simp;exact Jo.w1 (fk _ _ (by omega) (by omega)) m.out
    refine jm ?_ ?_
    ·rintro G q _ rfl _ ⟨s32,A32,n32,c32,rfl,HF,JN⟩ K m;go_simp;exact Jo.w1 (fS (u.b q).wr HF.wr (by omega) (by omega) HP.out) m.out
    exact jo
    all_goals (rintro G q;(repeat rintro _ rfl);intro K m;have C:=(f.b q).cell;go_simp;exact m.out _ _ rfl (br _ _))
   rintro w9 q _ rfl _ rfl _ rfl _ rfl _ ⟨s30,A30,n30,c30,rfl,HE,JL⟩ _ ⟨HG,hL,HC,hZ,rfl,L,JM⟩ _ rfl _ rfl _ rfl _ ⟨s32,A32,n32,c32,rfl,HF,JN⟩ _ ⟨HH,hM,HD,lA,rfl,M,JO⟩ -;simp only[Jo.z];replace d:=d.b q;replace e:=e.b q;replace f:=f.b q;replace h:=h.b q;replace l:=l.b q;replace u:=u.b q;replace g:=aj g q
   have JY:=d.cell;have HI:=d.frozen
   refine jn 11 fun K m=>?_
   go_simp;refine m.out _ _ ?_;clear m K JY HI;generalize x:(w9.setCell _ _).setCell _ _=wA at *;have c:=ae.of2 d x;replace e:=e.s c;replace f:=f.s c;replace h:=h.s c;replace l:=l.s c;replace L:=L.s c;replace M:=M.s c;replace g:=aP g c (by omega)
   replace d:=c.box;clear c x;have JZ:=e.cell;have HJ:=e.frozen
   refine jn 12 fun K m=>?_
   go_simp;refine m.out _ _ ?_;clear m K JZ HJ;generalize x:(wA.setCell _ _).setCell _ _=wB at *;have c:=ae.of2 e x;replace d:=d.s c;replace f:=f.s c;replace h:=h.s c;replace l:=l.s c;replace L:=L.s c;replace M:=M.s c;replace g:=aP g c (by omega)
   replace e:=c.box;clear c x;refine jd ?_;go_wp2;exact bq (v:= .tuple #[.agg #[.bool HG,.slice hL HC hZ],.agg #[.bool HH,.slice hM HD lA]]) (by simp[results,results138,go_sem,d.cell,e.cell]) rfl ⟨HG,hL,HC,hZ,HH,hM,HD,lA,rfl,L,M,JM,JO,g.out⟩
  ·have HS:Hid (ah T 0=1):=ie (aA (by omega))
   obtain⟨hk1,DS,lB⟩:=Z.out hc;have hQ:=ie DS;have H:=ie lB;have hX:=iw ((k:Int)+1);have hY:=jw ((k:Int)+1);clear HZ Z HA Y DS lB hc JE;have t:=l.cell
   go_wp2_with fail
   refine(gv o.wr HS.out).mono ?_;rintro ee w8 ⟨rfl,B⟩;clear t;refine yI ?_ d e f h l u j o g B;clear d e f h l u j o g B;intro d e f h l u j o g;have I:=H.out;clear H
   by_cases F:k%2=1
   ·rw[if_pos F]at I;have H:=ie I;clear I
    have t9:(Int.tmod (k:Int) 2==1)=true:=by
     rw[show Int.tmod (k:Int) 2=1 by rw[Int.tmod_eq_emod_of_nonneg (by omega)];omega]
     rfl
    have t:=l.cell
    go_wp2_with fail
    refine(vg o.wr rfl).mono ?_;rintro ee w9 ⟨LM,LD,LK,LF,rfl,y,JI,B⟩;clear t;refine yI ?_ d e f h l u j o g B;clear d e f h l u j o g B;intro d e f h l u j o g;clear o;have t:=l.cell
    have P:=l.frozen
    go_upto_region 12 with fail
    clear t P;generalize x:(w9.setCell _ _).setCell _ _=wA at *;have c:=ae.of2 l x;replace d:=d.s c;replace e:=e.s c;replace f:=f.s c;replace h:=h.s c;replace u:=u.s c;replace j:=j.s c;replace y:=y.s c;replace g:=aP g c (by omega)
    replace l:=c.box;clear c x;clear t9;clear F;have C:=f.cell;have t:=l.cell
    go_wp2_with fail
    refine(fS u.wr y.wr (by omega) (by omega) rfl).mono ?_;rintro ee hH ⟨JT,HM,bH,JC,rfl,r,JJ,B⟩;clear C t;refine yI ?_ d e f h l u j y g B;clear d e f h l u j y g B;intro d e f h l u j y g
    clear u y;have C:=f.cell;have N:=f.frozen
    go_upto_region 13 with fail
    clear C N;generalize x:(hH.setCell _ _).setCell _ _=JV at *;have c:=ae.of2 f x;replace d:=d.s c;replace e:=e.s c;replace h:=h.s c;replace l:=l.s c;replace j:=j.s c;replace r:=r.s c;replace g:=aP g c (by omega);replace f:=c.box
    clear c x;have bC:=hP.out;have D:=h.cell
    go_wp2_with fail
    refine(dr j.wr (by omega) (Int.le_trans (by decide) Q.out.1) (Int.le_trans Q.out.2 (by decide)) rfl).mono ?_;rintro ee hI ⟨JU,HN,bN,JD,rfl,E,JK,B⟩;clear D;refine lN ?_ d e f h l j r g B;clear d e f h l j r g B;intro d e f h l j r g;clear j bC;have D:=h.cell;have O:=h.frozen
    go_upto_region 14 with fail
    clear D O;generalize x:(hI.setCell _ _).setCell _ _=JW at *;have c:=ae.of2 h x;replace d:=d.s c;replace e:=e.s c;replace f:=f.s c;replace l:=l.s c;replace r:=r.s c;replace E:=E.s c;replace g:=aP g c (by omega);replace h:=c.box
    clear c x
    have bA:bH<=1000*(k+1):=by omega
    have bB:bN<=2+4*(k+1):=by omega
    have S:=hX.out;have U:=hY.out;go_wp2;clear S U
    go_roundw
    case rel=>exact ⟨k+1,by go_num,_,_,_,_,_,_,_,_,_,_,d,e,f,h,r,E,bA,bB,hk1,hQ.out,H.out,g.out⟩
    case measure=>simp [intOf];omega
   ·rw[if_neg F]at I;have H:=ie I;clear I
    have t9:(Int.tmod (k:Int) 2==1)=false:=by
     rw[show Int.tmod (k:Int) 2=0 by rw[Int.tmod_eq_emod_of_nonneg (by omega)];omega]
     rfl
    have y:=o;have JI:=JH;clear o
    go_upto_region 12 with fail
    clear t9;clear F;have C:=f.cell;have t:=l.cell
    go_wp2_with fail
    refine(fS u.wr y.wr (by omega) (by omega) rfl).mono ?_;rintro ee hH ⟨JT,HM,bH,JC,rfl,r,JJ,B⟩;clear C t;refine jD ?_ d e f h j g B;clear d e f h j g B;intro d e f h j g;clear u y;have C:=f.cell;have N:=f.frozen
    go_upto_region 13 with fail
    clear C N;generalize x:(hH.setCell _ _).setCell _ _=JV at *;have c:=ae.of2 f x;replace d:=d.s c;replace e:=e.s c;replace h:=h.s c;replace j:=j.s c;replace r:=r.s c;replace g:=aP g c (by omega);replace f:=c.box;clear c x;have bC:=hP.out
    have D:=h.cell
    go_wp2_with fail
    refine(dr j.wr (by omega) (Int.le_trans (by decide) Q.out.1) (Int.le_trans Q.out.2 (by decide)) rfl).mono ?_;rintro ee hI ⟨JU,HN,bN,JD,rfl,E,JK,B⟩;clear D;refine jD ?_ d e f h r g B;clear d e f h r g B;intro d e f h r g;clear j bC;have D:=h.cell
    have O:=h.frozen
    go_upto_region 14 with fail
    clear D O;generalize x:(hI.setCell _ _).setCell _ _=JW at *;have c:=ae.of2 h x;replace d:=d.s c;replace e:=e.s c;replace f:=f.s c;replace r:=r.s c;replace E:=E.s c;replace g:=aP g c (by omega);replace h:=c.box;clear c x
    have bA:bH<=1000*(k+1):=by omega
    have bB:bN<=2+4*(k+1):=by omega
    have S:=hX.out;have U:=hY.out;go_wp2;clear S U
    go_roundw
    case rel=>exact ⟨k+1,by go_num,_,_,_,_,_,_,_,_,_,_,d,e,f,h,r,E,bA,bB,hk1,hQ.out,H.out,g.out⟩
    case measure=>simp [intOf];omega
theorem GK{w:World}{n a b:Int}(hr:fF n=(a,b)):Calls prog 138 #[.int .i64 n] w (W2 w 1000000 a b):=by
 by_cases h1:n < 2
 ·unfold fF at hr
  rw[if_pos (.inl h1)]at hr
  injection hr with e1 e2
  subst e1;subst e2;exact Cg h1
 ·by_cases h2:1000 < n
  ·unfold fF at hr
   rw[if_pos (.inr h2)]at hr
   injection hr with e1 e2
   subst e1;subst e2;exact Ce h2
  ·exact Cf (by omega) (by omega) hr
theorem iO{w:World}:Calls prog 73 #[] w (W2 w 7 aH bW):=by
 obtain⟨b1,b2⟩:=kt;obtain⟨a,b,h5⟩:∃a b,fF 5=(a,b):=⟨_,_,rfl⟩;obtain⟨c,d,r⟩:∃a b,fF 239=(a,b):=⟨_,_,rfl⟩;rw[h5,r]at b1 b2;have H5:=ie h5;have N:=ie r
 have bH:Hid (a*16-d*4=aH):=ie b1
 have bN:Hid (b*16-c*4=bW):=ie b2
 clear h5 r b1 b2
 go_enter func73,ntmps73
 go_upto_region 1 with fail
 generalize P:(w.alloc _).alloc _=w1 at *;obtain⟨e,f,g⟩:=Bo.en2 P;clear P
 go_wp2_with fail
 refine(GK H5.out).mono ?_;rintro ee W ⟨s2,A2,n2,c2,s3,A3,n3,c3,rfl,p2,o,k2,k3,B⟩;refine aE ?_ e f g B;clear e f g B;intro e f g
 go_upto_region 2 with fail
 have F:(World.alloc W (.cells #[.bool s2,.slice A2 n2 c2] 43)).heap.size=W.heap.size+1:=by simp
 have hI:=e.lt;have hL:=f.lt;have n:=ab W (.cells #[.bool s2,.slice A2 n2 c2] 43);replace e:=e.b n;replace f:=f.b n;replace p2:=p2.b n;replace o:=o.b n;replace g:=ie (bt g.out n)
 have m:=Bo.new W #[.bool s2,.slice A2 n2 c2] 43;generalize i:World.alloc W (.cells #[.bool s2,.slice A2 n2 c2] 43)=w3 at *;clear i;have hN:=e.lt;have hP:=f.lt;have hM:=m.lt;generalize i:w3.alloc _=w4 at *;obtain⟨q,M⟩:=Bo.nw i;clear i;refine jD ?_ e f m p2 o g M;clear e f m p2 o g M;intro e f m p2 o g;rw[F]at q;clear F
 go_wp2_with fail
 refine(GK N.out).mono ?_;rintro ee X ⟨s4,A4,n4,c4,s5,A5,n5,c5,rfl,H,I,k4,k5,B⟩;refine jP ?_ e f m q p2 o g B;clear e f m q p2 o g B;intro e f m q p2 o g
 go_upto_region 3 with fail
 have G:(World.alloc X (.cells #[.bool s4,.slice A4 n4 c4] 43)).heap.size=X.heap.size+1:=by simp
 have hT:=e.lt;have hU:=f.lt;have hQ:=m.lt;have hR:=q.lt;have n:=ab X (.cells #[.bool s4,.slice A4 n4 c4] 43);replace e:=e.b n;replace f:=f.b n;replace m:=m.b n;replace q:=q.b n;replace p2:=p2.b n
 replace o:=o.b n;replace H:=H.b n;replace I:=I.b n;replace g:=ie (bt g.out n);have J:=Bo.new X #[.bool s4,.slice A4 n4 c4] 43;generalize i:World.alloc X (.cells #[.bool s4,.slice A4 n4 c4] 43)=w6 at *
 clear i;have hY:=e.lt;have hZ:=f.lt;have hV:=m.lt;have hW:=q.lt;have hX:=J.lt;generalize i:w6.alloc _=w7 at *;obtain⟨X5,M⟩:=Bo.nw i;clear i;refine jW ?_ e f m q J p2 o H I g M;clear e f m q J p2 o H I g M;intro e f m q J p2 o H I g;rw[G]at X5;clear G;have HE:=e.lt;have HF:=f.lt;have ET:=m.lt;have HA:=q.lt;have HC:=J.lt;have HD:=X5.lt;refine aV [0,1,2,3,4,5,6,7,8,9] [15,16,17,18,19,20,21,22,23,24,0,0] [[],[0],[],[2],[1,3],[],[5],[],[7],[6,8],[],[]] 12 2 [Jo.Fact.eq (.agg #[.bool s2,.slice A2 n2 c2]),Jo.Fact.wn (a*16) (1000002),Jo.Fact.eq (.agg #[.bool s5,.slice A5 n5 c5]),Jo.Fact.wn (d*4) (1000002),Jo.Fact.wn (aH) (7),Jo.Fact.eq (.agg #[.bool s3,.slice A3 n3 c3]),Jo.Fact.wn (b*16) (1000002),Jo.Fact.eq (.agg #[.bool s4,.slice A4 n4 c4]),Jo.Fact.wn (c*4) (1000002),Jo.Fact.wn (bW) (7),Jo.Fact.any,Jo.Fact.any] ?_ ?_
 ·refine jm ?_ ?_;rotate_left
  refine jm ?_ ?_
  ·rintro L j _ rfl K h;go_simp;exact Jo.w1 (dr (p2.b j).wr (by omega) (by omega) (by omega) rfl) h.out
  refine jm ?_ ?_;rotate_left
  refine jm ?_ ?_
  ·rintro L j _ rfl K h;go_simp;exact Jo.w1 (dr (I.b j).wr (by omega) (by omega) (by omega) rfl) h.out
  refine jm ?_ ?_
  ·rintro L j _ ⟨lA,bA,hE,gB,rfl,S,hA⟩ _ ⟨lB,bB,hF,gO,rfl,T,hB⟩ K h;go_simp;refine(nC S.wr T.wr (by omega) (by omega) bH.out).mono ?_;rintro ee wk ⟨D,t,A,x,rfl,k,Q,B⟩;exact h.out _ _ ⟨D,t,A,x,rfl,k,k.fits (by decide)⟩ B
  refine jm ?_ ?_;rotate_left
  refine jm ?_ ?_
  ·rintro L j _ rfl K h;go_simp;exact Jo.w1 (dr (o.b j).wr (by omega) (by omega) (by omega) rfl) h.out
  refine jm ?_ ?_;rotate_left
  refine jm ?_ ?_
  ·rintro L j _ rfl K h;go_simp;exact Jo.w1 (dr (H.b j).wr (by omega) (by omega) (by omega) rfl) h.out
  refine jm ?_ ?_
  ·rintro L j _ ⟨qT,bC,hG,gP,rfl,U,hC⟩ _ ⟨xX,bD,hH,gS,rfl,V,hD⟩ K h;go_simp;refine(nC U.wr V.wr (by omega) (by omega) bN.out).mono ?_;rintro ee wk ⟨E,u,C,y,rfl,l,R,B⟩;exact h.out _ _ ⟨E,u,C,y,rfl,l,l.fits (by decide)⟩ B
  exact jo
  all_goals (rintro L j;(repeat rintro _ rfl);intro K h;have HG:=(m.b j).cell;have HJ:=(X5.b j).cell;have HH:=(q.b j).cell;have HI:=(J.b j).cell;go_simp;exact h.out _ _ rfl (br _ _))
 rintro w8 j _ rfl _ ⟨lA,bA,hE,gB,rfl,S,hA⟩ _ rfl _ ⟨lB,bB,hF,gO,rfl,T,hB⟩ _ ⟨D,t,A,x,rfl,k,Q⟩ _ rfl _ ⟨qT,bC,hG,gP,rfl,U,hC⟩ _ rfl _ ⟨xX,bD,hH,gS,rfl,V,hD⟩ _ ⟨E,u,C,y,rfl,l,R⟩ -;simp only[Jo.z];replace e:=e.b j;replace f:=f.b j;replace g:=aj g j;clear p2 o H I;have zX:=e.cell
 have Y:=e.frozen
 refine jn 10 fun K h=>?_
 go_simp;refine h.out _ _ ?_;clear h K zX Y;generalize O:(w8.setCell _ _).setCell _ _=w9 at *;have p:=ae.of2 e O;replace f:=f.s p;replace k:=k.s p;replace l:=l.s p;replace g:=aP g p (by omega);replace e:=p.box;clear p O;have DS:=f.cell;have Z:=f.frozen
 refine jn 11 fun K h=>?_
 go_simp;refine h.out _ _ ?_;clear h K DS Z;generalize O:(w9.setCell _ _).setCell _ _=wA at *;have p:=ae.of2 f O;replace e:=e.s p;replace k:=k.s p;replace l:=l.s p;replace g:=aP g p (by omega);replace f:=p.box;clear p O;refine jd ?_;go_wp2;exact bq (v:= .tuple #[.agg #[.bool D,.slice t A x],.agg #[.bool E,.slice u C y]]) (by simp[results,results73,go_sem,e.cell,f.cell]) rfl ⟨D,t,A,x,E,u,C,y,rfl,k,l,Q,R,g.out⟩
theorem DH{w:World}{A:Option Addr}{n c:Nat}{s:Bool}{x:Int}{B:Option Addr}{m d:Nat}{t:Bool}{y:Int}{r u:Int}{z:Sp}(h:Wr w s A n c x)(k:Wr w t B m d y)(hn:n<=3500)(hm:m<=3500)(hr:Rq false x SC r)(hu:Rq true y SC u)(hz:du r u=z):Calls prog 100 #[.agg #[.bool s,.slice A n c],.agg #[.bool t,.slice B m d]] w (PV w z):=by
 have HR:=ie hr;have HU:=ie hu;have HZ:=ie hz;clear hr hu hz
 go_enter func100,ntmps100
 go_upto_region 1 with fail
 generalize q:((w.alloc _).alloc _).alloc _=w1 at *;obtain⟨X2,X3,i,l⟩:=Bo.en3 q;replace h:=h.below l.out;replace k:=k.below l.out;clear q;have gB:=X2.lt;have gO:=X3.lt;have gP:=i.lt;refine aV [0,1,2,3,4,5,6] [6,7,8,9,10,11,12,0] [[],[],[0,1],[],[],[3,4],[2,5],[]] 8 1 [Jo.Fact.eq (.agg #[.bool s,.slice A n c]),Jo.Fact.wn (SC) (8),Jo.Fact.num r,Jo.Fact.eq (.agg #[.bool t,.slice B m d]),Jo.Fact.wn (SC) (8),Jo.Fact.num u,Jo.Fact.iv z,Jo.Fact.any] ?_ ?_
 ·refine jm ?_ ?_;rotate_left
  refine jm ?_ ?_
  ·rintro E e K a;go_simp;exact Jo.w1 (ix) a.out
  refine jm ?_ ?_
  ·rintro E e _ rfl _ ⟨Z,G,X,S,rfl,v,V⟩ K a;go_simp;exact Jo.n1 (xS (h.b e) v.wr (by omega) (by omega) HR.out) a.out
  refine jm ?_ ?_;rotate_left
  refine jm ?_ ?_
  ·rintro E e K a;go_simp;exact Jo.w1 (ix) a.out
  refine jm ?_ ?_
  ·rintro E e _ rfl _ ⟨bB,H,Y,T,rfl,C,W⟩ K a;go_simp;exact Jo.n1 (xS (k.b e) C.wr (by omega) (by omega) HU.out) a.out
  refine jm ?_ ?_
  ·rintro E e _ ⟨M,bA,P,I,rfl,f⟩ _ ⟨N,bC,Q,J,rfl,g⟩ K a;go_simp;exact Jo.v1 (mY f.top g.top f.rk g.rk HZ.out) a.out
  exact jo
  all_goals (rintro E e;(repeat rintro _ rfl);intro K a;have gS:=(X2.b e).cell;have hA:=(X3.b e).cell;go_simp;exact a.out _ _ rfl (br _ _))
 rintro w2 e _ rfl _ ⟨Z,G,X,S,rfl,v,V⟩ _ ⟨M,bA,P,I,rfl,f⟩ _ rfl _ ⟨bB,H,Y,T,rfl,C,W⟩ _ ⟨N,bC,Q,J,rfl,g⟩ _ ⟨U,O,bD,R,L,o,D,p,j,rfl,bH⟩ -;simp only[Jo.z];replace i:=i.b e;replace l:=aj l e;clear h k;have bN:=i.cell;have F:=i.frozen
 refine jn 7 fun K a=>?_
 go_simp;refine a.out _ _ ?_;clear a K bN F;have SX:=ae.t9 i U O bD R L o D p j;refine jd ?_;go_wp2;exact bq (by simp[results,results100,go_sem,SX.box.cell]) rfl ⟨_,_,_,_,_,_,_,_,_,rfl,bH,(SX.below l.out (by omega))⟩
def wu (x y:Int):Int:=if qI x%2=0 then ln (rI x)-(tI x y-rI x+200)else -(ln (rI x)+(tI x y-rI x+200))
def wt (x y:Int):Int:=if qI x%2=0 then ln (rI x)+(tI x y-rI x+200)else -(ln (rI x)-(tI x y-rI x+200))
theorem Nm.low{w:World}{B:Option Addr}{m d r:Nat}(h:Nm w B m d r)(h0:0 < r):0 < m/\∃b o,B=some ⟨b,o,none⟩/\w.cell? ⟨b,o,none⟩=some (.int .u32 ((r%4294967296:Nat):Int)):=by
 obtain⟨b,h⟩:=h;rw[dq (by omega)]at h;have hl:=h.len
 simp at hl
 obtain⟨o,e,a⟩:=h.at (by omega)
 have:=a 0 (by omega)
 simp only[Nat.add_zero,List.getD_cons_zero]at this;exact⟨by omega,b,o,e,this⟩
theorem tk{w:World}{A:Option Addr}{n c:Nat}{s:Bool}{x:Int}{B:Option Addr}{m d:Nat}{t:Bool}{y:Int}{q r u v e lo hi l g:Int}{bz bo:Bool}(h:Wr w s A n c x)(k:Wr w t B m d y)(hn:n<=1000)(hm:m<=1000)(hq:(x*2+aH).fdiv (aH*2)=q)(hs:decide (q < 0)=bz)(ho:decide (q.natAbs%2=1)=bo)(hr:(if bz=true then x-q*aH else x-q*bW)=r)(hu:(if bz=true then y-q*bW else y-q*aH)=u)(hv:ln r=v)(he:u-r+200=e)(hlo:(if bo=true then -(v+e)else v-e)=lo)(hhi:(if bo=true then -(v-e)else v+e)=hi)(hl:dD lo (-SC) SC=l)(hg:dD hi (-SC) SC=g):Calls prog 133 #[.agg #[.bool s,.slice A n c],.agg #[.bool t,.slice B m d]] w (W2 w 310000 l g):=by
 obtain⟨σ,hσ⟩:∃σ,ah q 0=σ:=⟨_,rfl⟩;have e0:=(bL hσ).1;rw[hs]at e0;have HQ:=ie hq;have HS:=ie hσ;have HO:=ie ho;have HR:=ie hr;have HU:=ie hu;have HV:=ie hv;have HE:=ie he;have HH:=ie hlo;have HF:=ie hhi;have HL:=ie hl;have HG:=ie hg;have HZ:=ie e0;clear hq hσ ho hr hu hv he hlo hhi hl hg e0
 clear hs
 go_enter func133,ntmps133
 go_upto_region 1 with fail
 generalize JQ:(((w.alloc _).alloc _).alloc _).alloc _=w1 at *;obtain⟨S,Q,i,j,o⟩:=Bo.en4 JQ;replace h:=h.below o.out;replace k:=k.below o.out;clear JQ
 go_wp2_with fail
 refine(iO).mono ?_;rintro ee w2 ⟨s6,A6,n6,c6,s7,A7,n7,c7,rfl,Y,W,k6,k7,B⟩;refine jP ?_ S Q i j h k o B;clear S Q i j h k o B;intro S Q i j h k o;have QC:=o.out.size
 go_upto_region 2 with fail
 have HA:(World.alloc w2 (.cells #[.bool s6,.slice A6 n6 c6] 43)).heap.size=w2.heap.size+1:=by simp
 have OZ:=S.lt;have PA:=Q.lt;have PC:=i.lt;have PD:=j.lt;have BX:=ab w2 (.cells #[.bool s6,.slice A6 n6 c6] 43);replace S:=S.b BX;replace Q:=Q.b BX;replace i:=i.b BX;replace j:=j.b BX;replace h:=h.b BX
 replace k:=k.b BX;replace Y:=Y.b BX;replace W:=W.b BX;replace o:=ie (bt o.out BX);have U:=Bo.new w2 #[.bool s6,.slice A6 n6 c6] 43;generalize H:World.alloc w2 (.cells #[.bool s6,.slice A6 n6 c6] 43)=w3 at *
 clear H;have PE:=S.lt;have PF:=Q.lt;have PH:=i.lt;have PJ:=j.lt;have PG:=U.lt;generalize H:w3.alloc _=w4 at *;obtain⟨T,Z⟩:=Bo.nw H;clear H;refine jW ?_ S Q i j U h k Y W o Z;clear S Q i j U h k Y W o Z;intro S Q i j U h k Y W o;rw[HA]at T;clear HA;have hY:=S.lt;have hE:=Q.lt;have bN:=i.lt;have gB:=j.lt;have hZ:=U.lt;have hF:=T.lt;have hX:=o.out.size;refine aV [0,1,2,3,4,5,6,7] [24,25,26,27,28,29,30,9,0] [[],[0],[],[1,2],[],[4],[3,5],[],[]] 9 1 [Jo.Fact.eq (.agg #[.bool s,.slice A n c]),Jo.Fact.wn (x*2) (n+2),Jo.Fact.eq (.agg #[.bool s6,.slice A6 n6 c6]),Jo.Fact.wn (x*2+aH) (n+10),Jo.Fact.eq (.agg #[.bool s6,.slice A6 n6 c6]),Jo.Fact.wn (aH*2) (9),Jo.Fact.wn (q) (n+23),Jo.Fact.bo w4.heap.size #[.bool false,.slice none 0 0] 43,Jo.Fact.any] ?_ ?_
 ·refine jm ?_ ?_;rotate_left
  refine jm ?_ ?_
  ·rintro wj a _ rfl K F;go_simp;exact Jo.w1 (dr (h.b a) (by omega) (by decide) (by decide) rfl) F.out
  refine jm ?_ ?_;rotate_left
  refine jm ?_ ?_
  ·rintro wj a _ ⟨PK,MR,OQ,NE,rfl,HJ,NZ⟩ _ rfl K F;go_simp;exact Jo.w1 (fS HJ.wr (Y.b a).wr (by omega) (by omega) rfl) F.out
  refine jm ?_ ?_;rotate_left
  refine jm ?_ ?_
  ·rintro wj a _ rfl K F;go_simp;exact Jo.w1 (dr (Y.b a).wr (by omega) (by decide) (by decide) rfl) F.out
  refine jm ?_ ?_
  ·rintro wj a _ ⟨PL,MS,OR,NF,rfl,HK,OA⟩ _ ⟨PM,MU,OS,NG,rfl,HM,OB⟩ K F;go_simp;exact Jo.w1 (kB HK.wr HM.wr (by omega) (by omega) (by decide) HQ.out) F.out
  refine jm ?_ ?_
  ·rintro wj a K F;go_simp;exact F.out _ _ ⟨_,rfl,a.size,Bo.new _ _ _⟩ (ab _ _)
  exact jo
  all_goals (rintro wj a;(repeat rintro _ rfl);intro K F;have LT:=(S.b a).cell;have LU:=(U.b a).cell;go_simp;exact F.out _ _ rfl (br _ _))
 rintro w5 a _ rfl _ ⟨PK,MR,OQ,NE,rfl,HJ,NZ⟩ _ rfl _ ⟨PL,MS,OR,NF,rfl,HK,OA⟩ _ rfl _ ⟨PM,MU,OS,NG,rfl,HM,OB⟩ _ ⟨hU,hI,bH,hP,rfl,f,QV⟩ _ ⟨g8,rfl,QT,E⟩ -;simp only[Jo.z];replace S:=S.b a;replace Q:=Q.b a;replace i:=i.b a;replace j:=j.b a;replace U:=U.b a;replace T:=T.b a;replace h:=h.b a
 replace k:=k.b a;replace Y:=Y.b a;replace W:=W.b a;replace o:=aj o a;clear HQ HJ HK HM;have bD:=E.cell;have LV:=E.frozen
 refine jn 8 fun K F=>?_
 go_simp;refine F.out _ _ ?_;clear F K bD LV;generalize V:(w5.setCell _ _).setCell _ _=w6 at *;have p:=ae.of2 E V;replace S:=S.s p;replace Q:=Q.s p;replace i:=i.s p;replace j:=j.s p;replace U:=U.s p;replace T:=T.s p;replace h:=h.s p;replace k:=k.s p
 replace Y:=Y.s p;replace W:=W.s p;replace f:=f.s p;replace o:=aP o p (by omega);replace E:=p.box;clear p V;refine jd ?_
 go_upto_region 3 with fail
 have hY:=S.lt;have hE:=Q.lt;have bN:=i.lt;have gB:=j.lt;have hZ:=U.lt;have hF:=T.lt;have lA:=E.lt;have hX:=o.out.size;refine aV [0,1,2,3,4,5] [31,32,33,34,35,10,0] [[],[],[],[1,2],[0,3],[],[]] 7 1 [Jo.Fact.eq (.agg #[.bool s,.slice A n c]),Jo.Fact.eq (.agg #[.bool hU,.slice hI bH hP]),Jo.Fact.eq (.agg #[.bool s7,.slice A7 n7 c7]),Jo.Fact.wn (q*bW) (n+30),Jo.Fact.wn (x-q*bW) (4000),Jo.Fact.bo w6.heap.size #[.bool false,.slice none 0 0] 43,Jo.Fact.any] ?_ ?_
 ·iterate 3 (refine jm ?_ ?_;rotate_left)
  refine jm ?_ ?_
  ·rintro wj a _ rfl _ rfl K F;go_simp;exact Jo.w1 (vh (f.b a).wr (W.b a).wr (by omega) (by omega) rfl) F.out
  refine jm ?_ ?_
  ·rintro wj a _ rfl _ ⟨PO,MW,OT,NH,rfl,HN,OC⟩ K F;go_simp;exact Jo.w1 (nC (h.b a) HN.wr (by omega) (by omega) rfl) F.out
  refine jm ?_ ?_
  ·rintro wj a K F;go_simp;exact F.out _ _ ⟨_,rfl,a.size,Bo.new _ _ _⟩ (ab _ _)
  exact jo
  all_goals (rintro wj a;(repeat rintro _ rfl);intro K F;have LT:=(S.b a).cell;have bD:=(E.b a).cell;have PY:=(T.b a).cell;go_simp;exact F.out _ _ rfl (br _ _))
 rintro w7 a _ rfl _ rfl _ rfl _ ⟨PO,MW,OT,NH,rfl,HN,OC⟩ _ ⟨PP,MX,OU,NI,rfl,M,OD⟩ _ ⟨g9,rfl,QU,O⟩ -;simp only[Jo.z];replace S:=S.b a;replace Q:=Q.b a;replace i:=i.b a;replace j:=j.b a;replace U:=U.b a;replace T:=T.b a;replace E:=E.b a;replace h:=h.b a;replace k:=k.b a;replace Y:=Y.b a
 replace W:=W.b a;replace f:=f.b a;replace o:=aj o a;clear HN;have hC:=O.cell;have ET:=O.frozen
 refine jn 6 fun K F=>?_
 go_simp;refine F.out _ _ ?_;clear F K hC ET;generalize V:(w7.setCell _ _).setCell _ _=w8 at *;have p:=ae.of2 O V;replace S:=S.s p;replace Q:=Q.s p;replace i:=i.s p;replace j:=j.s p;replace U:=U.s p;replace T:=T.s p;replace E:=E.s p;replace h:=h.s p
 replace k:=k.s p;replace Y:=Y.s p;replace W:=W.s p;replace f:=f.s p;replace M:=M.s p;replace o:=aP o p (by omega);replace O:=p.box;clear p V;refine jd ?_
 go_upto_region 4 with fail
 have hY:=S.lt;have hE:=Q.lt;have bN:=i.lt;have gB:=j.lt;have hZ:=U.lt;have hF:=T.lt;have lA:=E.lt;have HC:=O.lt;have hX:=o.out.size;refine aV [0,1,2,3,4,5] [36,37,38,39,40,11,0] [[],[],[],[1,2],[0,3],[],[]] 7 1 [Jo.Fact.eq (.agg #[.bool t,.slice B m d]),Jo.Fact.eq (.agg #[.bool hU,.slice hI bH hP]),Jo.Fact.eq (.agg #[.bool s6,.slice A6 n6 c6]),Jo.Fact.wn (q*aH) (n+30),Jo.Fact.wn (y-q*aH) (4000),Jo.Fact.bo w8.heap.size #[.bool false,.slice none 0 0] 43,Jo.Fact.any] ?_ ?_
 ·iterate 3 (refine jm ?_ ?_;rotate_left)
  refine jm ?_ ?_
  ·rintro wj a _ rfl _ rfl K F;go_simp;exact Jo.w1 (vh (f.b a).wr (Y.b a).wr (by omega) (by omega) rfl) F.out
  refine jm ?_ ?_
  ·rintro wj a _ rfl _ ⟨PQ,MY,OV,NJ,rfl,HP,OE⟩ K F;go_simp;exact Jo.w1 (nC (k.b a) HP.wr (by omega) (by omega) rfl) F.out
  refine jm ?_ ?_
  ·rintro wj a K F;go_simp;exact F.out _ _ ⟨_,rfl,a.size,Bo.new _ _ _⟩ (ab _ _)
  exact jo
  all_goals (rintro wj a;(repeat rintro _ rfl);intro K F;have PX:=(Q.b a).cell;have bD:=(E.b a).cell;have LU:=(U.b a).cell;go_simp;exact F.out _ _ rfl (br _ _))
 rintro w9 a _ rfl _ rfl _ rfl _ ⟨PQ,MY,OV,NJ,rfl,HP,OE⟩ _ ⟨PS,MZ,OW,NK,rfl,R,OF⟩ _ ⟨g10,rfl,QB,G⟩ -;simp only[Jo.z];replace S:=S.b a;replace Q:=Q.b a;replace i:=i.b a;replace j:=j.b a;replace U:=U.b a;replace T:=T.b a;replace E:=E.b a;replace O:=O.b a;replace h:=h.b a;replace k:=k.b a
 replace Y:=Y.b a;replace W:=W.b a;replace f:=f.b a;replace M:=M.b a;replace o:=aj o a;clear HP;have gS:=G.cell;have hD:=G.frozen
 refine jn 6 fun K F=>?_
 go_simp;refine F.out _ _ ?_;clear F K gS hD;generalize V:(w9.setCell _ _).setCell _ _=wA at *;have p:=ae.of2 G V;replace S:=S.s p;replace Q:=Q.s p;replace i:=i.s p;replace j:=j.s p;replace U:=U.s p;replace T:=T.s p;replace E:=E.s p;replace O:=O.s p
 replace h:=h.s p;replace k:=k.s p;replace Y:=Y.s p;replace W:=W.s p;replace f:=f.s p;replace M:=M.s p;replace R:=R.s p;replace o:=aP o p (by omega);replace G:=p.box;clear p V;refine jd ?_
 go_upto_region 5 with fail
 have bD:=E.cell
 go_wp2_with fail
 refine(gv f.wr HS.out).mono ?_;rintro ee wB ⟨rfl,B⟩;clear bD;replace S:=S.b B;replace Q:=Q.b B;replace i:=i.b B;replace j:=j.b B;replace U:=U.b B;replace T:=T.b B;replace E:=E.b B;replace O:=O.b B;replace G:=G.b B;replace h:=h.b B;replace k:=k.b B;replace Y:=Y.b B;replace W:=W.b B
 replace f:=f.b B;replace M:=M.b B;replace R:=R.b B;replace o:=aj o B;clear B;have hz:=HZ.out
 go_upto_if 42 with fail
 clear hz HZ HS
 go_cut [] (fun wx=>∃(hV:Bool) (hL:Option Addr) (gO hQ:Nat) (hW:Bool) (hM:Option Addr) (gP hR:Nat),Wn wx hV hL gO hQ r/\Wn wx hW hM gP hR u/\gO<=4000/\gP<=4000/\Bo wx (g9) #[.bool hV,.slice hL gO hQ] 43/\Bo wx (g10) #[.bool hW,.slice hM gP hR] 43/\Bo wx (w.heap.size+1+1) #[.bool false,.slice none 0 0] 43/\Bo wx (w.heap.size+1+1+1) #[.bool false,.slice none 0 0] 43/\Bo wx (g8) #[.bool hU,.slice hI bH hP] 43/\Wn wx hU hI bH hP q/\Below w.heap.size w wx)
 case first=>
  cases bz
  ·have NN:x-q*bW=r:=HR.out
   have NO:y-q*aH=u:=HU.out
   rw[NN]at M;rw[NO]at R
   first | go_meet | (go_wp2_with fail;go_meet)
   exact⟨_,_,_,_,_,_,_,_,M,R,by omega,by omega,O,G,i,j,E,f,o.out⟩
  ·have NC:Hid (x-q*aH=r):=ie HR.out
   have ND:Hid (y-q*bW=u):=ie HU.out
   clear M R
   go_upto_region 6 with fail
   have hY:=S.lt;have hE:=Q.lt;have bN:=i.lt;have gB:=j.lt;have hZ:=U.lt;have hF:=T.lt;have lA:=E.lt;have HC:=O.lt;have HI:=G.lt;have hX:=o.out.size;refine aV [0,1,2,3,4] [44,45,46,47,48,0] [[],[],[],[1,2],[0,3],[]] 6 1 [Jo.Fact.eq (.agg #[.bool s,.slice A n c]),Jo.Fact.eq (.agg #[.bool hU,.slice hI bH hP]),Jo.Fact.eq (.agg #[.bool s6,.slice A6 n6 c6]),Jo.Fact.wn (q*aH) (n+30),Jo.Fact.wn (r) (4000),Jo.Fact.any] ?_ ?_
   ·iterate 3 (refine jm ?_ ?_;rotate_left)
    refine jm ?_ ?_
    ·rintro wj a _ rfl _ rfl K F;go_simp;exact Jo.w1 (vh (f.b a).wr (Y.b a).wr (by omega) (by omega) rfl) F.out
    refine jm ?_ ?_
    ·rintro wj a _ rfl _ ⟨PT,NA,OX,NL,rfl,HT,OG⟩ K F;go_simp;exact Jo.w1 (nC (h.b a) HT.wr (by omega) (by omega) NC.out) F.out
    exact jo
    all_goals (rintro wj a;(repeat rintro _ rfl);intro K F;have LT:=(S.b a).cell;have bD:=(E.b a).cell;have LU:=(U.b a).cell;go_simp;exact F.out _ _ rfl (br _ _))
   rintro wC a _ rfl _ rfl _ rfl _ ⟨PT,NA,OX,NL,rfl,HT,OG⟩ _ ⟨RN,QE,RH,QN,rfl,hA,QW⟩ -;simp only[Jo.z];replace Q:=Q.b a;replace i:=i.b a;replace j:=j.b a;replace T:=T.b a;replace E:=E.b a;replace O:=O.b a;replace G:=G.b a;replace h:=h.b a;replace k:=k.b a;replace W:=W.b a
   replace f:=f.b a;replace o:=aj o a;clear HT;have hC:=O.cell;have ET:=O.frozen
   refine jn 5 fun K F=>?_
   go_simp;refine F.out _ _ ?_;clear F K hC ET;generalize V:(wC.setCell _ _).setCell _ _=wD at *;have p:=ae.of2 O V;replace Q:=Q.s p;replace i:=i.s p;replace j:=j.s p;replace T:=T.s p;replace E:=E.s p;replace G:=G.s p;replace h:=h.s p
   replace k:=k.s p;replace W:=W.s p;replace f:=f.s p;replace hA:=hA.s p;replace o:=aP o p (by omega);replace O:=p.box;clear p V;refine jd ?_
   go_upto_region 7 with fail
   have hE:=Q.lt;have bN:=i.lt;have gB:=j.lt;have hF:=T.lt;have lA:=E.lt;have HC:=O.lt;have HI:=G.lt;have hX:=o.out.size;refine aV [0,1,2,3,4] [49,50,51,52,53,0] [[],[],[],[1,2],[0,3],[]] 6 1 [Jo.Fact.eq (.agg #[.bool t,.slice B m d]),Jo.Fact.eq (.agg #[.bool hU,.slice hI bH hP]),Jo.Fact.eq (.agg #[.bool s7,.slice A7 n7 c7]),Jo.Fact.wn (q*bW) (n+30),Jo.Fact.wn (u) (4000),Jo.Fact.any] ?_ ?_
   ·iterate 3 (refine jm ?_ ?_;rotate_left)
    refine jm ?_ ?_
    ·rintro wj a _ rfl _ rfl K F;go_simp;exact Jo.w1 (vh (f.b a).wr (W.b a).wr (by omega) (by omega) rfl) F.out
    refine jm ?_ ?_
    ·rintro wj a _ rfl _ ⟨PW,NB,OY,NM,rfl,HW,OH⟩ K F;go_simp;exact Jo.w1 (nC (k.b a) HW.wr (by omega) (by omega) ND.out) F.out
    exact jo
    all_goals (rintro wj a;(repeat rintro _ rfl);intro K F;have PX:=(Q.b a).cell;have bD:=(E.b a).cell;have PY:=(T.b a).cell;go_simp;exact F.out _ _ rfl (br _ _))
   rintro wE a _ rfl _ rfl _ rfl _ ⟨PW,NB,OY,NM,rfl,HW,OH⟩ _ ⟨RO,QG,RI,QO,rfl,HX,QX⟩ -;simp only[Jo.z];replace i:=i.b a;replace j:=j.b a;replace E:=E.b a;replace O:=O.b a;replace G:=G.b a;replace h:=h.b a;replace k:=k.b a;replace f:=f.b a;replace hA:=hA.b a;replace o:=aj o a
   clear HW;have gS:=G.cell;have hD:=G.frozen
   refine jn 5 fun K F=>?_
   go_simp;refine F.out _ _ ?_;clear F K gS hD;generalize V:(wE.setCell _ _).setCell _ _=wF at *;have p:=ae.of2 G V;replace i:=i.s p;replace j:=j.s p;replace E:=E.s p;replace O:=O.s p;replace h:=h.s p;replace k:=k.s p;replace f:=f.s p
   replace hA:=hA.s p;replace HX:=HX.s p;replace o:=aP o p (by omega);replace G:=p.box;clear p V;refine jd ?_
   first | go_meet | (go_wp2_with fail;go_meet)
   exact⟨_,_,_,_,_,_,_,_,hA,HX,by omega,by omega,O,G,i,j,E,f,o.out⟩
 case rest=>
  clear S Q i j U T E O G h k Y W f M R o HR HU;obtain⟨PP,MX,OU,NI,PS,MZ,OW,NK,M,R,OD,OF,O,G,i,j,E,f,hB⟩:=hcut;have o:=ie hB;clear hB
  go_upto_region 8 with fail
  have hC:=O.cell
  go_wp2_with fail
  refine(B8 M.wr (by omega) HV.out).mono ?_;rintro ee wG ⟨hV,hL,gO,hQ,rfl,I,QY,B⟩;clear hC;refine yI ?_ i j E O G f M R o B;clear i j E O G f M R o B;intro i j E O G f M R o;have NT:=o.out.size
  go_upto_region 9 with fail
  have MA:=i.lt;have MB:=j.lt;have LY:=E.lt;have LZ:=O.lt;have JY:=G.lt;generalize H:wG.alloc _=wH at *;obtain⟨J,Z⟩:=Bo.nw H;clear H;refine jW ?_ i j E O G f M R I o Z;clear i j E O G f M R I o Z;intro i j E O G f M R I o;have gS:=G.cell;have hC:=O.cell
  go_wp2_with fail
  refine(nC R.wr M.wr (by omega) (by omega) rfl).mono ?_;rintro ee wI ⟨hW,hM,gP,hR,rfl,lB,QZ,B⟩;clear gS hC;refine jP ?_ i j E J f I o B;clear i j E J f I o B;intro i j E J f I o
  go_wp2_with fail
  refine(fk 200 _ (by decide) (by decide)).mono ?_;rintro ee wJ ⟨RP,QI,RJ,QP,rfl,LK,RA,B⟩;refine lN ?_ i j E J f I lB o B;clear i j E J f I lB o B;intro i j E J f I lB o
  go_wp2_with fail
  refine(fS lB.wr LK.wr (by omega) (by omega) HE.out).mono ?_;rintro ee wK ⟨RQ,QJ,RK,QQ,rfl,X,RB,B⟩;refine jP ?_ i j E J f I o B;clear i j E J f I o B;intro i j E J f I o;clear lB LK M R;have NU:=o.out.size
  go_upto_region 10 with fail
  have MD:=i.lt;have ME:=j.lt;have MC:=E.lt;have JZ:=J.lt;generalize H:wK.alloc _=wL at *;obtain⟨bA,Z⟩:=Bo.nw H;clear H;refine lN ?_ i j E J f I X o Z;clear i j E J f I X o Z;intro i j E J f I X o;clear O G;have zX:=J.cell;have DS:=bA.cell
  go_wp2_with fail
  refine(nC I.wr X.wr (by omega) (by omega) rfl).mono ?_;rintro ee wM ⟨RR,QL,RL,QR,rfl,N,RC,B⟩;clear zX DS;refine yI ?_ i j E J bA f I X o B;clear i j E J bA f I X o B;intro i j E J bA f I X o;have NV:=o.out.size
  go_upto_region 11 with fail
  have MG:=i.lt;have MH:=j.lt;have MF:=E.lt;have LA:=J.lt;have LB:=bA.lt;generalize H:wM.alloc _=wN at *;obtain⟨C,Z⟩:=Bo.nw H;clear H;refine jW ?_ i j E J bA f I X N o Z;clear i j E J bA f I X N o Z;intro i j E J bA f I X N o;have zX:=J.cell;have DS:=bA.cell
  go_wp2_with fail
  refine(fS I.wr X.wr (by omega) (by omega) rfl).mono ?_;rintro ee wO ⟨RS,QM,RM,QS,rfl,bC,RD,B⟩;clear zX DS;refine jP ?_ i j E C f N o B;clear i j E C f N o B;intro i j E C f N o;have NW:=o.out.size
  go_upto_region 12 with fail
  have MJ:=i.lt;have MK:=j.lt;have MI:=E.lt;have LC:=C.lt;generalize H:wO.alloc _=wP at *;obtain⟨D,Z⟩:=Bo.nw H;clear H;refine lN ?_ i j E C f N bC o Z;clear i j E C f N bC o Z;intro i j E C f N bC o;clear I X J bA
  go_cut [15] (fun vo wx=>vo= .bool bo/\wx=wP)
  case first=>
   cases bo
   ·have ho:=HO.out
    have NS:q.natAbs%2=0:=by have:=of_decide_eq_false ho;omega
    by_cases h0:q.natAbs=0
    ·obtain rfl:bH=0:=by have:=f.1.len;rw[show q.natAbs=0 by omega,ay]at this;simpa using this.symm
     have tn:decide ((0:Int) < ((0:Nat):Int))=false:=rfl
     have bD:=E.cell
     go_wp2_with fail
     go_meet
     exact⟨rfl,rfl⟩
    ·obtain⟨NR,b0,o0,rfl,hcell⟩:=f.1.low (by omega)
     have tn:decide ((0:Int) < (bH:Int))=true:=dt (by omega)
     obtain⟨z,hz⟩:∃z:Nat,q.natAbs%4294967296=z:=⟨_,rfl⟩
     have JR:Int.tmod (z:Int) 2=0:=by rw[Int.tmod_eq_emod_of_nonneg (by omega)];omega
     rw[hz]at hcell;have bD:=E.cell
     go_wp2_with fail
     go_meet
     exact⟨rfl,rfl⟩
   ·have ho:=HO.out
    have NS:q.natAbs%2=1:=by exact of_decide_eq_true ho
    obtain⟨NR,b0,o0,rfl,hcell⟩:=f.1.low (by omega)
    have tn:decide ((0:Int) < (bH:Int))=true:=dt (by omega)
    obtain⟨z,hz⟩:∃z:Nat,q.natAbs%4294967296=z:=⟨_,rfl⟩
    have JR:Int.tmod (z:Int) 2=1:=by rw[Int.tmod_eq_emod_of_nonneg (by omega)];omega
    rw[hz]at hcell;have bD:=E.cell
    go_wp2_with fail
    go_meet
    exact⟨rfl,rfl⟩
  case rest=>
   obtain⟨rfl,rfl⟩:=hcut;clear HO f E
   go_upto_if 78 with fail
   go_cut [] (fun wx=>∃(hV:Bool) (hL:Option Addr) (gO hQ:Nat) (hW:Bool) (hM:Option Addr) (gP hR:Nat),Wn wx hV hL gO hQ lo/\Wn wx hW hM gP hR hi/\gO<=309000/\gP<=309000/\Bo wx (wM.heap.size) #[.bool hV,.slice hL gO hQ] 43/\Bo wx (wO.heap.size) #[.bool hW,.slice hM gP hR] 43/\Bo wx (w.heap.size+1+1) #[.bool false,.slice none 0 0] 43/\Bo wx (w.heap.size+1+1+1) #[.bool false,.slice none 0 0] 43/\Below w.heap.size w wx)
   case first=>
    cases bo
    ·have NP:v-e=lo:=HH.out
     have NQ:v+e=hi:=HF.out
     rw[NP]at N;rw[NQ]at bC
     first | go_meet | (go_wp2_with fail;go_meet)
     exact⟨_,_,_,_,_,_,_,_,N,bC,by omega,by omega,C,D,i,j,o.out⟩
    ·have JI:Hid (-(v+e)=lo):=ie HH.out
     have JH:Hid (-(v-e)=hi):=ie HF.out
     have hG:=C.cell
     go_upto_region 15 with fail
     clear hG;have ML:=i.lt;have MM:=j.lt;have LD:=C.lt;have LE:=D.lt;generalize H:wc.alloc _=wQ at *;obtain⟨hN,Z⟩:=Bo.nw H;clear H;refine jP ?_ i j C D N bC o Z;clear i j C D N bC o Z;intro i j C D N bC o;have hH:=D.cell
     go_wp2_with fail
     refine(vg bC.wr JI.out).mono ?_;rintro ee wR ⟨LL,JB,JS,JK,rfl,L,OI,B⟩;clear hH;refine jP ?_ i j C D hN N o B;clear i j C D hN N o B;intro i j C D hN N o;have hG:=C.cell;have HY:=C.frozen
     go_upto_region 16 with fail
     clear hG HY;generalize V:(wR.setCell _ _).setCell _ _=wS at *;have p:=ae.of2 C V;replace i:=i.s p;replace j:=j.s p;replace D:=D.s p;replace hN:=hN.s p;replace N:=N.s p;replace L:=L.s p;replace o:=aP o p (by omega)
     replace C:=p.box;clear p V;have LS:=hN.cell
     go_wp2_with fail
     refine(vg N.wr JH.out).mono ?_;rintro ee wT ⟨LM,JC,JT,JL,rfl,P,OJ,B⟩;clear LS;refine jD ?_ i j C D L o B;clear i j C D L o B;intro i j C D L o;have hH:=D.cell;have JA:=D.frozen
     go_wp2_with fail
     clear hH JA;generalize V:(wT.setCell _ _).setCell _ _=wU at *;have p:=ae.of2 D V;replace i:=i.s p;replace j:=j.s p;replace C:=C.s p;replace L:=L.s p;replace P:=P.s p;replace o:=aP o p (by omega);replace D:=p.box;clear p V
     first | go_meet | (go_wp2_with fail;go_meet)
     exact⟨_,_,_,_,_,_,_,_,L,P,by omega,by omega,C,D,i,j,o.out⟩
   case rest=>
    clear i j C D N bC o HH HF;obtain⟨LL,JB,JS,JK,LM,JC,JT,JL,L,P,OI,OJ,C,D,i,j,hB⟩:=hcut;have o:=ie hB;clear hB
    go_upto_region 17 with fail
    go_wp2_with fail
    refine(ix).mono ?_;rintro ee wV ⟨LN,JD,JU,JM,rfl,iU,RE,B⟩;refine jP ?_ i j C D L P o B;clear i j C D L P o B;intro i j C D L P o;have NX:=o.out.size
    go_upto_region 18 with fail
    have MN:=i.lt;have MO:=j.lt;have LF:=C.lt;have LG:=D.lt;generalize H:wV.alloc _=wW at *;obtain⟨bB,Z⟩:=Bo.nw H;clear H;refine lN ?_ i j C D L P iU o Z;clear i j C D L P iU o Z;intro i j C D L P iU o;have HD:=bB.cell
    go_wp2_with fail
    refine(vg iU.wr rfl).mono ?_;rintro ee wX ⟨LO,JE,JV,JN,rfl,hT,RG,B⟩;clear HD;refine yI ?_ i j C D bB L P iU o B;clear i j C D bB L P iU o B;intro i j C D bB L P iU o;have NY:=o.out.size
    go_upto_region 19 with fail
    have MP:=i.lt;have MQ:=j.lt;have LH:=C.lt;have LI:=D.lt;have LJ:=bB.lt;generalize H:wX.alloc _=wY at *;obtain⟨JJ,Z⟩:=Bo.nw H;clear H;refine jW ?_ i j C D bB L P iU hT o Z;clear i j C D bB L P iU hT o Z;intro i j C D bB L P iU hT o;have bN:=i.lt;have gB:=j.lt;have OM:=C.lt;have ON:=D.lt;have OO:=bB.lt;have OP:=JJ.lt;have hX:=o.out.size;refine aV [0,1,2,3,4,5,6,7] [88,89,90,91,92,93,94,95,0,0] [[],[],[],[0,1,2],[],[],[],[4,5,6],[],[]] 10 2 [Jo.Fact.eq (.agg #[.bool LL,.slice JB JS JK]),Jo.Fact.eq (.agg #[.bool LO,.slice JE JV JN]),Jo.Fact.eq (.agg #[.bool LN,.slice JD JU JM]),Jo.Fact.wn (l) (310000),Jo.Fact.eq (.agg #[.bool LM,.slice JC JT JL]),Jo.Fact.eq (.agg #[.bool LO,.slice JE JV JN]),Jo.Fact.eq (.agg #[.bool LN,.slice JD JU JM]),Jo.Fact.wn (g) (310000),Jo.Fact.any,Jo.Fact.any] ?_ ?_
    ·iterate 3 (refine jm ?_ ?_;rotate_left)
     refine jm ?_ ?_
     ·rintro wj a _ rfl _ rfl _ rfl K F;go_simp;exact Jo.w1 (xQ (L.b a) (hT.b a) (iU.b a) (by omega) (by omega) (by omega) HL.out) F.out
     iterate 3 (refine jm ?_ ?_;rotate_left)
     refine jm ?_ ?_
     ·rintro wj a _ rfl _ rfl _ rfl K F;go_simp;exact Jo.w1 (xQ (P.b a) (hT.b a) (iU.b a) (by omega) (by omega) (by omega) HG.out) F.out
     exact jo
     all_goals (rintro wj a;(repeat rintro _ rfl);intro K F;have hG:=(C.b a).cell;have QD:=(JJ.b a).cell;have HD:=(bB.b a).cell;have hH:=(D.b a).cell;go_simp;exact F.out _ _ rfl (br _ _))
    rintro wZ a _ rfl _ rfl _ rfl _ ⟨LP,JF,JW,JO,rfl,qT,OK⟩ _ rfl _ rfl _ rfl _ ⟨LR,JG,JX,JP,rfl,xX,OL⟩ -;simp only[Jo.z];replace i:=i.b a;replace j:=j.b a;replace o:=aj o a;clear L P iU hT;have PZ:=i.cell;have LW:=i.frozen
    refine jn 8 fun K F=>?_
    go_simp;refine F.out _ _ ?_;clear F K PZ LW;generalize V:(wZ.setCell _ _).setCell _ _=wa at *;have p:=ae.of2 i V;replace j:=j.s p;replace qT:=qT.s p;replace xX:=xX.s p;replace o:=aP o p (by omega);replace i:=p.box;clear p V;have QA:=j.cell;have LX:=j.frozen
    refine jn 9 fun K F=>?_
    go_simp;refine F.out _ _ ?_;clear F K QA LX;generalize V:(wa.setCell _ _).setCell _ _=wb at *;have p:=ae.of2 j V;replace i:=i.s p;replace qT:=qT.s p;replace xX:=xX.s p;replace o:=aP o p (by omega);replace j:=p.box;clear p V;refine jd ?_;go_wp2
    exact bq (v:= .tuple #[.agg #[.bool LP,.slice JF JW JO],.agg #[.bool LR,.slice JG JX JP]]) (by simp[results,results133,go_sem,i.cell,j.cell]) rfl ⟨LP,JF,JW,JO,LR,JG,JX,JP,rfl,qT,xX,OK,OL,o.out⟩
theorem kr (a:Int):(dD a (-SC) SC).natAbs < 4294967296^7:=by
 have e:(4294967296:Nat)^7=26959946667150639794667015087019630673637144422540572481103610249216:=by decide
 rw[e]
 unfold dD SC
 split
 ·decide
 ·split
  ·decide
  ·omega
theorem oz{w:World}{A:Option Addr}{n c:Nat}{s:Bool}{x:Int}{B:Option Addr}{m d:Nat}{t:Bool}{y:Int}{l g:Int}(h:Wr w s A n c x)(k:Wr w t B m d y)(hn:n<=1000)(hm:m<=1000)(hl:dD (wu x y) (-SC) SC=l)(hg:dD (wt x y) (-SC) SC=g):Calls prog 133 #[.agg #[.bool s,.slice A n c],.agg #[.bool t,.slice B m d]] w (W2 w 7 l g):=by
 have b:=kr (wu x y);have f:=kr (wt x y);rw[hl]at b;rw[hg]at f
 have hq:(x*2+aH).fdiv (aH*2)=qI x:=by
  rw[Int.fdiv_eq_ediv_of_nonneg _ (by decide),Int.mul_comm x 2,Int.mul_comm aH 2]
  rfl
 refine Calls.mono (?_:Calls _ _ _ w (W2 w 310000 l g)) ?_
 ·unfold wu at hl
  unfold wt at hg
  have o:(if decide (qI x < 0)=true then x-qI x*aH else x-qI x*bW)=rI x:=by
   unfold rI
   by_cases c:qI x < 0
   ·rw[dt c,if_pos rfl,if_pos c]
   ·rw[df c,if_neg (by decide),if_neg c]
  have p:(if decide (qI x < 0)=true then y-qI x*bW else y-qI x*aH)=tI x y:=by
   unfold tI
   by_cases c:qI x < 0
   ·rw[dt c,if_pos rfl,if_pos c]
   ·rw[df c,if_neg (by decide),if_neg c]
  refine tk h k hn hm hq rfl rfl o p rfl rfl rfl rfl ?_ ?_
  ·by_cases a:qI x%2=0
   ·rw[if_pos a]at hl;rw[df (by omega),if_neg (by decide)];exact hl
   ·rw[if_neg a]at hl;rw[dt (by omega),if_pos rfl];exact hl
  ·by_cases a:qI x%2=0
   ·rw[if_pos a]at hg;rw[df (by omega),if_neg (by decide)];exact hg
   ·rw[if_neg a]at hg;rw[dt (by omega),if_pos rfl];exact hg
 ·rintro e w' ⟨s1,A1,n1,c1,s2,A2,n2,c2,j,i,p2,q,r,B⟩;exact⟨s1,A1,n1,c1,s2,A2,n2,c2,j,i,p2,i.fits b,p2.fits f,B⟩
end Go.Proofs.YteigedaefgmojaaGreatDoor
namespace Go.Proofs.YteigedaefgmojaaGreatDoor
open Go.Proofs.Tryz
open Go Go.RowKit
set_option linter.unusedVariables false
def aD (x:Int):Bool:=decide (-al 1073741824 < x/\x < al 1073741824)
def ak (x:Int):Int:=if aD x=true then vr x*SC/2^KK else 0
theorem ky{a b q:Int}(hb:0 < b)(h1:q*b<=a)(h2:a < (q+1)*b):a/b=q:=
 Int.le_antisymm (Int.lt_add_one_iff.1 (Int.ediv_lt_of_lt_mul hb h2)) (Int.le_ediv_of_mul_le hb h1)
theorem Fx:SC=2^192:=by decide
theorem ma{N F:Int}(nf:mk N F=(N,F))(hN:N.natAbs < 2^128)(h1: -2900000<=F)(h2:F<=2900000):
  pO (mv N F 192).1 (mv N F 192).2=N*2^(F+KK).toNat*SC/2^KK:=by
 have e:mv N F 192=mk N (F+192):=by
  unfold mv
  rw[if_neg (by omega),nf]
 rw[e];obtain⟨a,b⟩:=Ez (fh N (F+192));have v:=DP hN (e:=F+192) (by omega) (by omega)
 rw[v,show (F+192+(KK:Int)).toNat=(F+KK).toNat+192 by rw[eB];omega,Int.pow_add,<-Int.mul_assoc,<-Fx]at a b
 exact(ky (aN KK) a b).symm
theorem gh{x:Int}(h:aD x=true):ak x=vr x*SC/2^KK:=if_pos h
theorem mU{x:Int}(h:aD x=false):ak x=0:=if_neg (by rw[h];decide)
theorem Hh:al 1073741824 < 19342822337206103650074625/\0 < al 1073741824:=by
 have a:=ke (a:=1073741824) (by decide) (by decide);have b:=dJ (n:=1073741824) (by decide) (by decide);refine⟨a.2,?_⟩
 rcases Int.lt_or_le 0 (al 1073741824)with h | h
 ·exact h
 ·exfalso
  have c:=ib h
  rw[b,show vr 0=0 from rfl]at c
  have:=aN KK
  omega
theorem ol{x:Int}(h:aD x=true): -19342822337206103650074625 < x/\x < 19342822337206103650074625:=by
 have a:=of_decide_eq_true h;have b:=Hh
 omega
theorem BL{x N F:Int}(hv:vr x=N*2^(F+KK).toNat)(hN:N.natAbs < 2^64)(h1: -2900000<=F)(hF:F < -3000):vr x*SC/2^KK=if N < 0 then -1 else 0:=by
 have a:=aN (F+KK).toNat
 have k:(2:Int)^KK=2^(F+KK).toNat*2^(-F).toNat:=by rw[<-Int.pow_add];congr 1;rw[eB];omega
 obtain⟨m,hm⟩:∃m,(-F).toNat=256+m:=⟨(-F).toNat-256,by omega⟩
 have b:(2:Int)^(-F).toNat=2^256*2^m:=by rw[hm,Int.pow_add]
 have d:=aN m
 have n1: -2^64 < N:=by omega
 have n2:N < 2^64:=by omega
 have s1:N*SC < 2^(-F).toNat/\ -2^(-F).toNat<=N*SC:=by
  rw[b];generalize (2:Int)^m=u at *
  constructor
  ·have:(2:Int)^256*1<=2^256*u:=Int.mul_le_mul_of_nonneg_left (by omega) (by decide)
   rw[show (2:Int)^64=18446744073709551616 from rfl]at n2
   have c:N*SC < 2^256:=by
    rw[show (2:Int)^256=18446744073709551616*SC by decide]
    exact Int.mul_lt_mul_of_pos_right n2 (by decide)
   omega
  ·have:(2:Int)^256*1<=2^256*u:=Int.mul_le_mul_of_nonneg_left (by omega) (by decide)
   rw[show (2:Int)^64=18446744073709551616 from rfl]at n1
   have c: -(2^256)<=N*SC:=by
    rw[show -(2:Int)^256= -18446744073709551616*SC by decide]
    exact Int.mul_le_mul_of_nonneg_right (Int.le_of_lt n1) (by decide)
   omega
 have e:vr x*SC=2^(F+KK).toNat*(N*SC):=by
  rw[hv,Int.mul_comm N,Int.mul_assoc]
 have hq:=aN (-F).toNat;rw[e,k];generalize (2:Int)^(F+KK).toNat=u at *;generalize (2:Int)^(-F).toNat=t at *
 by_cases c:N < 0
 ·rw[if_pos c]
  have c2:N*SC < 0:=Int.mul_neg_of_neg_of_pos c (by decide)
  refine ky (Int.mul_pos a hq) ?_ ?_
  ·rw[show -1*(u*t)=u* -t by rw[Int.mul_neg,Int.neg_mul,Int.one_mul]]
   exact Int.mul_le_mul_of_nonneg_left s1.2 (by omega)
  ·rw[show (-1+1:Int)*(u*t)=0 by rw[show (-1+1:Int)=0 from rfl,Int.zero_mul]]
   exact Int.mul_neg_of_pos_of_neg a c2
 ·rw[if_neg c]
  have c2:0<=N*SC:=Int.mul_nonneg (by omega) (by decide)
  refine ky (Int.mul_pos a hq) ?_ ?_
  ·rw[Int.zero_mul];exact Int.mul_nonneg (by omega) c2
  ·rw[Int.zero_add,Int.one_mul];exact Int.mul_lt_mul_of_pos_left s1.1 a
theorem fD{x:Int}(h:aD x=true):ak x*2^KK<=vr x*SC/\vr x*SC < (ak x+1)*2^KK:=by
 rw[gh h];have a:=aN KK;exact⟨Int.ediv_mul_le _ (by omega),Int.lt_ediv_add_one_mul_self _ a⟩
theorem rr{s:Bool}{M E x:Int}(q:Fq 1 s M E x):∃N F,lJ 1 s M E=true/\(iL 1 s M E).1=N/\(iL 1 s M E).2=F/\mk N F=(N,F)/\vr x=N*2^(F+KK).toNat/\N.natAbs < 2^64/\ -2900000<=F/\F<=2900000/\(N < 0↔s=true):=by
 obtain⟨h1,h2,f,h4,g⟩:9223372036854775808<=M/\M < 18446744073709551616/\ -1048576<=E/\E<=1048576/\(-19342822337206103650074625 < x/\x < 19342822337206103650074625):=by
  rcases q.cases with⟨c,_⟩ | ⟨_,h1,h2,f,h4,⟨_,k⟩ | ⟨_,k⟩⟩ | ⟨c,_⟩
  ·omega
  ·exact⟨h1,h2,f,h4,by omega,by omega⟩
  ·exact⟨h1,h2,f,h4,by omega,by omega⟩
  ·omega
 obtain⟨hb,j⟩:=pN q g.1 g.2
 have i:iL 1 s M E=mk (an s M) E:=if_pos hb
 have hz:an s M≠0/\(an s M).natAbs=M.natAbs/\(an s M < 0↔s=true):=by
  cases s
  ·rw[show an false M=M from if_neg (by decide)]
   exact⟨by omega,rfl,by constructor <;> intro h <;> first | omega | cases h⟩
  ·rw[show an true M= -M from if_pos rfl]
   exact⟨by omega,by omega,by constructor <;> intro h <;> first | omega | rfl⟩
 obtain⟨p,u,r⟩:=hz;rw[i]at j;rw[i];generalize an s M=z at *;obtain⟨e1,_⟩:=eG z.natAbs (by omega)
 have hm:z.natAbs < 2^64:=by omega
 have o:v2 z.natAbs < 64:=by
  rcases Nat.lt_or_ge (v2 z.natAbs) 64 with c | c
  ·exact c
  ·exfalso
   have a:2^64<=2^v2 z.natAbs:=Nat.pow_le_pow_right (by decide) c
   have b:0 < z.natAbs/2^v2 z.natAbs:=by
    rcases Nat.eq_zero_or_pos (z.natAbs/2^v2 z.natAbs)with d | d
    ·rw[d,Nat.zero_mul]at e1
     omega
    ·exact d
   have d:=Nat.mul_le_mul b (Nat.le_refl (2^v2 z.natAbs))
   omega
 obtain⟨t,l,m,_,_⟩:=gl (z:=z) (e:=E) p (by omega) (by omega);have n:=fh z E;refine⟨_,_,hb,rfl,rfl,n,j.symm,?_,by omega,by omega,m.trans r⟩
 rw[l];exact Nat.lt_of_le_of_lt (Nat.div_le_self _ _) hm
theorem EA{K:Int}{s:Bool}{M E x:Int}(q:Fq K s M E x)(hK:K≠0):Fq K false M E (if s=true then -x else x):=by
 cases s
 ·exact q
 ·exact qG q hK
theorem oj{s:Bool}{x c:Int}(hs:s=true↔x < 0)(h:ah (if s=true then -x else x) (al 1073741824)=c):decide (0<=c)=!(aD x):=by
 have t:=Hh
 unfold aD
 rw[<-h]
 cases s
 ·have hx:¬x < 0:=fun e=>by cases hs.2 e
  rw[if_neg (by decide)]
  by_cases g:x < al 1073741824
  ·rw[ax g,dt (show -al 1073741824 < x/\x < al 1073741824 from ⟨by omega,g⟩)]
   rfl
  ·rw[df (show ¬(-al 1073741824 < x/\x < al 1073741824)from fun e=>g e.2)]
   rcases ap x (al 1073741824)with ⟨a,b⟩ | ⟨a,b⟩ | ⟨a,b⟩ <;> rw[b] <;> first | rfl | omega
 ·have hx:x < 0:=hs.1 rfl
  rw[if_pos rfl]
  by_cases g: -x < al 1073741824
  ·rw[ax g,dt (show -al 1073741824 < x/\x < al 1073741824 from ⟨by omega,by omega⟩)]
   rfl
  ·rw[df (show ¬(-al 1073741824 < x/\x < al 1073741824)from fun e=>g (by omega))]
   rcases ap (-x) (al 1073741824)with ⟨a,b⟩ | ⟨a,b⟩ | ⟨a,b⟩ <;> rw[b] <;> first | rfl | omega
theorem xA:aD 0=true/\ak 0=0:=by
 have t:=Hh
 have h:aD 0=true:=dt ⟨by omega,by omega⟩
 refine⟨h,?_⟩
 rw[gh h,show vr 0=0 from rfl,Int.zero_mul,Int.zero_ediv]
theorem rt{s:Bool}{M E x:Int}(q:Fq 2 s M E x):aD x=false/\ak x=0/\lJ 2 s M E=false:=by
 have t:=Hh
 have h:aD x=false:=by
  refine df ?_
  rcases q.cases with⟨c,_⟩ | ⟨c,_⟩ | ⟨_,_,_,⟨_,a⟩ | ⟨_,a⟩⟩
  ·omega
  ·omega
  ·omega
  ·omega
 exact⟨h,mU h,by unfold lJ;simp⟩
theorem rv{K:Int}{s:Bool}{M E x:Int}(q:Fq K s M E x):s=true↔x < 0:=by
 rcases q.three with⟨a,b⟩ | ⟨a,rfl,b⟩ | ⟨a,rfl,b⟩
 ·rcases q.cases with⟨_,rfl,_⟩ | ⟨c,_⟩ | ⟨c,_⟩
  ·constructor
   ·intro h;cases h
   ·intro h;omega
  ·omega
  ·omega
 ·constructor
  ·intro h;cases h
  ·intro h;omega
 ·exact⟨fun _=>b,fun _=>rfl⟩
theorem xE{K:Int}{s:Bool}{M E x:Int}(q:Fq K s M E x):0<=M:=by
 rcases q.cases with⟨_,_,rfl,_⟩ | ⟨_,h1,_⟩ | ⟨_,rfl,_⟩ <;> omega
theorem ru{K:Int}{s:Bool}{M E x:Int}(q:Fq K s M E x):(K=0/\x=0)\/K=1\/K=2:=by
 rcases q.cases with⟨a,_,_,_,b⟩ | ⟨a,_⟩ | ⟨a,_⟩
 ·exact .inl ⟨a,b⟩
 ·exact .inr (.inl a)
 ·exact .inr (.inr a)
theorem eN{x:Int}(h:aD x=true):(ak x).natAbs < 4294967296^10:=by
 obtain⟨a,b⟩:=fD h;have hb:=of_decide_eq_true h;have e:=fL hb.2;have v2:=fL hb.1;rw[bF,dJ (by decide) (by decide)]at v2;rw[dJ (by decide) (by decide)]at e;have j:=aN KK
 have c:=Int.mul_lt_mul_of_pos_right e (show (0:Int) < SC by decide)
 have d:=Int.mul_lt_mul_of_pos_right v2 (show (0:Int) < SC by decide)
 have e1:1073741824*2^KK*SC=1073741824*SC*2^KK:=by rw[Int.mul_assoc,Int.mul_comm (2^KK) SC,<-Int.mul_assoc]
 have e2: -(1073741824*2^KK)*SC= -(1073741824*SC)*2^KK:=by rw[Int.neg_mul,e1,Int.neg_mul]
 rw[e1]at c;rw[e2]at d
 have f:ak x < 1073741824*SC:=Int.lt_of_mul_lt_mul_right (Int.lt_of_le_of_lt a c) (by omega)
 have i: -(1073741824*SC) < ak x+1:=Int.lt_of_mul_lt_mul_right (Int.lt_trans d b) (by omega)
 have g:(ak x).natAbs < 13479973333575319897333507543509815336818572211270286240551805124608:=by
  generalize ak x=z at *;clear a b c d e1 e2 e v2
  unfold SC at f i
  omega
 exact Nat.lt_of_lt_of_le g (by decide)
end Go.Proofs.YteigedaefgmojaaGreatDoor
namespace Go.Proofs.YteigedaefgmojaaGreatDoor
open Go.Proofs.Tryz
open Go.RowKit
set_option linter.unusedVariables false
set_option linter.unusedSimpArgs false
set_option maxRecDepth 100000
def WB (w:World)(K:Nat)(z:Int)(t:Bool)(e:Ending)(w':World):Prop:=∃s A n c,e= .returned (.tuple #[.agg #[.bool s,.slice A n c],.bool t])/\Wn w' s A n c z/\n<=K/\Below w.heap.size w w'
set_option maxHeartbeats 8000000 in
theorem kC{w:World}{D M E:Int}{s:Bool}{x z:Int}{t:Bool}(hM:LQ M)(hx:rk D s M E=x)(hz:ak x=z)(ht:aD x=t):Calls prog 64 #[VQ D s M E] w (WB w 140000 z t):=by
 delta VQ
 have HX:=ie hx;have HZ:=ie hz;have u:=ie ht;clear hx hz ht
 go_enter func64,ntmps64
 go_upto_region 1 with fail
 generalize bN:(w.alloc _).alloc _=w1 at *;obtain⟨X1,d,f⟩:=Bo.en2 bN;clear bN;have hD:=X1.cell
 go_wp2_with fail
 refine(ou hM HX.out).mono ?_;rintro X w2 ⟨K1,s1,M1,E1,rfl,S,B⟩;clear hD;replace d:=d.b B;replace f:=aj f B;clear B
 go_upto_region 2 with fail
 have hC:=d.lt;generalize h:w2.alloc _=w3 at *;obtain⟨g,r⟩:=Bo.nw h;clear h;replace d:=d.b r;replace f:=aj f r;clear r;clear HX hM;clear X1
 rcases ru S with⟨rfl,rfl⟩ | rfl | rfl
 ·obtain⟨fb,fi⟩:=xA
  obtain rfl:true=t:=by rw[<-u.out,fb]
  obtain rfl:0=z:=by rw[<-HZ.out,fi]
  obtain⟨_,rfl,rfl,rfl⟩:=S.uniq Fq.nought
  have hb:lJ 0 false 0 0=true:=by decide
  obtain⟨N,hN⟩:∃N,(iL 0 false 0 0).1=N:=⟨_,rfl⟩;obtain⟨G,hG⟩:∃N,(iL 0 false 0 0).2=N:=⟨_,rfl⟩
  have m0:(0:Int)<=0:=by decide
  obtain⟨σ,hσ⟩:∃σ,ah (if false=true then -0 else (0:Int)) (al 1073741824)=σ:=⟨_,rfl⟩;have n:=oj (rv S) hσ;rw[fb]at n
  have y:Hid (decide (0<=σ)=false):=ie n
  have HC:Hid (ah 0 (al 1073741824)=σ):=ie hσ
  clear u HZ fb fi hσ n;have i:=g.cell
  go_wp2_with fail
  refine(jq m0 (by decide) hb hN hG).mono ?_;rintro X w4 ⟨s5,A5,n5,c5,rfl,q,k5,B⟩;clear i;refine aE ?_ d g f B;clear d g f B;intro d g f;clear hN hG hb m0 q
  go_upto_region 3 with fail
  have R:=d.lt;have bB:=g.lt;generalize h:w4.alloc _=w5 at *;obtain⟨l,r⟩:=Bo.nw h;clear h;refine aE ?_ d g f r;clear d g f r;intro d g f;have i:=g.cell
  go_upto_region 6 with fail
  clear i;have bH:=d.lt;have bC:=g.lt;have bD:=l.lt;generalize h:w5.alloc _=w6 at *;obtain⟨C,r⟩:=Bo.nw h;clear h;refine dk ?_ d g l f r;clear d g l f r;intro d g l f;have H:=C.cell;have W:=C.frozen
  go_upto_region 7 with fail
  clear H W
  have k:ae w6 (World.setCell w6 ⟨w5.heap.size,1,none⟩ (.bool false)) _ _ #[.int .i64 0,.bool false,.int .u64 0,.int .i64 0] _:=ae.at4 C 1 (.bool false)
  replace d:=d.s k;replace g:=g.s k;replace l:=l.s k;replace f:=aP f k (by omega);replace C:=k.box;clear k;generalize World.setCell w6 ⟨w5.heap.size,1,none⟩ (.bool false)=w7 at *;refine aV [0,1,2,3] [21,22,23,24] [[],[],[0,1],[2]] 4 0 [Jo.q4 0 false 0 0,Jo.Fact.num (al 1073741824),Jo.qi σ,Jo.qb false] ?_ ?_
  ·refine jm ?_ ?_
   ·rintro U m K o;have H:=(C.b m).cell;go_simp;exact o.out _ _ rfl (br _ _)
   refine jm ?_ ?_
   ·rintro U m K o;go_simp;exact Jo.n1 (AY _ (by decide) (by decide) rfl) o.out
   refine jm ?_ ?_
   ·rintro U m _ rfl _ ⟨K9,s9,M9,E9,rfl,q9⟩ K o;go_simp;refine(lF (z:=σ) (by decide) q9.top (by rw[Fq.nought.rk,q9.rk];exact HC.out)).mono ?_;rintro X wk ⟨rfl,B⟩;exact o.out _ _ rfl B
   refine jm ?_ ?_
   ·rintro U m _ rfl K o;have n:=y.out;go_simp
    exact o.out _ _ (by first | rfl | (show Value.bool _=Value.bool _;rw[n]) | simp_all) (br _ _)
   exact jo
  rintro w8 m _ rfl _ ⟨K9,s9,M9,E9,rfl,_⟩ _ rfl _ rfl -;simp only[Jo.z];replace d:=d.b m;replace g:=g.b m;replace l:=l.b m;replace C:=C.b m;replace f:=aj f m;refine jd ?_;clear HC y;have i:=g.cell;have p:=d.cell;have j:=d.frozen;go_wp2;clear i p j
  have k:=ae.t2 d false none 0 0;exact bq (v:= .tuple #[.agg #[.bool false,.slice none 0 0],.bool true]) (by simp[results,results64,go_sem,k.box.cell]) rfl ⟨_,_,_,_,rfl,⟨Nm.zero,rfl⟩,Nat.zero_le _,(k.below f.out (by omega))⟩
 ·obtain⟨N,G,hb,hN,hG,nf,hv,O,g1,g2,Z⟩:=rr S;have m0:=xE S;have qa:=EA S (by decide);obtain⟨a,ha⟩:∃a,(if s1=true then -x else x)=a:=⟨_,rfl⟩;obtain⟨σ,hσ⟩:∃σ,ah (if s1=true then -x else x) (al 1073741824)=σ:=⟨_,rfl⟩;have n:=oj (rv S) hσ;rw[u.out]at n;rw[ha]at hσ qa
  have HC:Hid (ah a (al 1073741824)=σ):=ie hσ
  clear hσ ha;have i:=g.cell
  go_wp2_with fail
  refine(jq m0 S.top hb hN hG).mono ?_;rintro X w4 ⟨s5,A5,n5,c5,rfl,q,k5,B⟩;clear i;refine aE ?_ d g f B;clear d g f B;intro d g f;clear hN hG hb m0
  go_upto_region 3 with fail
  have R:=d.lt;have bB:=g.lt;generalize h:w4.alloc _=w5 at *;obtain⟨l,r⟩:=Bo.nw h;clear h;refine dk ?_ d g q f r;clear d g q f r;intro d g q f;have i:=g.cell
  go_upto_region 6 with fail
  clear i;have bH:=d.lt;have bC:=g.lt;have bD:=l.lt;generalize h:w5.alloc _=w6 at *;obtain⟨C,r⟩:=Bo.nw h;clear h;refine dG ?_ d g l q f r;clear d g l q f r;intro d g l q f;have H:=C.cell;have W:=C.frozen
  go_upto_region 7 with fail
  clear H W
  have k:ae w6 (World.setCell w6 ⟨w5.heap.size,1,none⟩ (.bool false)) _ _ #[.int .i64 1,.bool false,.int .u64 M1,.int .i64 E1] _:=ae.at4 C 1 (.bool false)
  replace d:=d.s k;replace g:=g.s k;replace l:=l.s k;replace q:=q.s k;replace f:=aP f k (by omega);replace C:=k.box;clear k;generalize World.setCell w6 ⟨w5.heap.size,1,none⟩ (.bool false)=w7 at *
  cases t
  ·have y:Hid (decide (0<=σ)=true):=ie n
   obtain rfl:0=z:=by rw[<-HZ.out,mU u.out]
   clear n HZ u hv nf O Z q;refine aV [0,1,2,3] [21,22,23,24] [[],[],[0,1],[2]] 4 0 [Jo.q4 1 false M1 E1,Jo.Fact.num (al 1073741824),Jo.qi σ,Jo.qb true] ?_ ?_
   ·refine jm ?_ ?_
    ·rintro U m K o;have H:=(C.b m).cell;go_simp;exact o.out _ _ rfl (br _ _)
    refine jm ?_ ?_
    ·rintro U m K o;go_simp;exact Jo.n1 (AY _ (by decide) (by decide) rfl) o.out
    refine jm ?_ ?_
    ·rintro U m _ rfl _ ⟨K9,s9,M9,E9,rfl,q9⟩ K o;go_simp;refine(lF (z:=σ) qa.top q9.top (by rw[qa.rk,q9.rk];exact HC.out)).mono ?_;rintro X wk ⟨rfl,B⟩;exact o.out _ _ rfl B
    refine jm ?_ ?_
    ·rintro U m _ rfl K o;have n:=y.out;go_simp
     exact o.out _ _ (by first | rfl | (show Value.bool _=Value.bool _;rw[n]) | simp_all) (br _ _)
    exact jo
   rintro w8 m _ rfl _ ⟨K9,s9,M9,E9,rfl,_⟩ _ rfl _ rfl -;simp only[Jo.z];replace d:=d.b m;replace g:=g.b m;replace l:=l.b m;replace C:=C.b m;replace f:=aj f m;refine jd ?_;clear HC y;have p:=d.cell;have j:=d.frozen;go_wp2;clear p j;have k:=ae.t2 d false none 0 0
   exact bq (v:= .tuple #[.agg #[.bool false,.slice none 0 0],.bool false]) (by simp[results,results64,go_sem,k.box.cell]) rfl ⟨_,_,_,_,rfl,⟨Nm.zero,rfl⟩,Nat.zero_le _,(k.below f.out (by omega))⟩
  ·have y:Hid (decide (0<=σ)=false):=ie n
   have A:=HZ.out;rw[gh u.out]at A;clear n HZ u;refine aV [0,1,2,3] [21,22,23,24] [[],[],[0,1],[2]] 4 0 [Jo.q4 1 false M1 E1,Jo.Fact.num (al 1073741824),Jo.qi σ,Jo.qb false] ?_ ?_
   ·refine jm ?_ ?_
    ·rintro U m K o;have H:=(C.b m).cell;go_simp;exact o.out _ _ rfl (br _ _)
    refine jm ?_ ?_
    ·rintro U m K o;go_simp;exact Jo.n1 (AY _ (by decide) (by decide) rfl) o.out
    refine jm ?_ ?_
    ·rintro U m _ rfl _ ⟨K9,s9,M9,E9,rfl,q9⟩ K o;go_simp;refine(lF (z:=σ) qa.top q9.top (by rw[qa.rk,q9.rk];exact HC.out)).mono ?_;rintro X wk ⟨rfl,B⟩;exact o.out _ _ rfl B
    refine jm ?_ ?_
    ·rintro U m _ rfl K o;have n:=y.out;go_simp
     exact o.out _ _ (by first | rfl | (show Value.bool _=Value.bool _;rw[n]) | simp_all) (br _ _)
    exact jo
   rintro w8 m _ rfl _ ⟨K9,s9,M9,E9,rfl,_⟩ _ rfl _ rfl -;simp only[Jo.z];replace d:=d.b m;replace g:=g.b m;replace l:=l.b m;replace q:=q.b m;replace f:=aj f m;refine jd ?_;clear HC y
   by_cases hf:G < -3000
   ·rw[BL hv O g1 hf]at A
    have tf:decide (G < -3000)=true:=dt hf
    clear hf hv nf O q
    by_cases hs:s1=true
    ·subst hs;rw[if_pos (Z.2 rfl)]at A
     obtain rfl: -1=z:=A
     have i:=g.cell;have V:=l.cell
     go_wp2_with fail
     refine(fk (-1) _ (by decide) (by decide)).mono ?_;rintro X wA ⟨T,I,L,J,rfl,F,hB,B⟩;clear i V;refine dk ?_ d g l f B;clear d g l f B;intro d g l f;clear tf;have p:=d.cell;have j:=d.frozen;go_wp2;clear p j;have k:=ae.t2 d T I L J
     replace F:=F.s k;exact bq (v:= .tuple #[.agg #[.bool T,.slice I L J],.bool true]) (by simp[results,results64,go_sem,k.box.cell]) rfl ⟨_,_,_,_,rfl,F,by omega,(k.below f.out (by omega))⟩
    ·have hA:s1=false:=by simpa using hs
     subst hA
     rw[if_neg (fun c=>by cases Z.1 c)]at A
     obtain rfl:0=z:=A
     have i:=g.cell;have V:=l.cell;have p:=d.cell;have j:=d.frozen;go_wp2;clear i V p j;have k:=ae.t2 d false none 0 0;exact bq (v:= .tuple #[.agg #[.bool false,.slice none 0 0],.bool true]) (by simp[results,results64,go_sem,k.box.cell]) rfl ⟨_,_,_,_,rfl,⟨Nm.zero,rfl⟩,Nat.zero_le _,(k.below f.out (by omega))⟩
   ·have tf:decide (G < -3000)=false:=df hf
    have bA:N.natAbs < 2^128:=Nat.lt_trans O (by decide)
    have Y:=ma nf bA g1 g2;rw[<-hv,A]at Y;obtain⟨P,hP⟩:∃P,(mv N G 192).1=P:=⟨_,rfl⟩;obtain⟨Q,hQ⟩:∃P,(mv N G 192).2=P:=⟨_,rfl⟩
    have gB:mk P Q=(P,Q):=by
     have e:Nf (mv N G 192):=by
      unfold mv
      split
      ·exact bU 0
      ·exact fh _ _
     rw[<-hP,<-hQ];exact e
    rw[hP,hQ]at Y
    have gO:Hid (pO (mk P Q).1 (mk P Q).2=z):=ie (by rw[gB];exact Y)
    have gP:=ie hP;have gS:=ie hQ;clear Y hP hQ gB A hv nf O bA Z hf;have i:=g.cell;have V:=l.cell
    go_wp2_with fail
    refine(Fj q.wr (by omega) gP.out gS.out).mono ?_;rintro X wA ⟨s6,A6,n6,c6,rfl,p6,k6,B⟩;clear i V;refine dG ?_ d g l q f B;clear d g l q f B;intro d g l q f;clear q tf
    go_wp2_with fail
    refine(CQ p6.wr (by omega) gO.out).mono ?_;rintro X wB ⟨T,I,L,J,rfl,F,hB,B⟩;refine dk ?_ d g l f B;clear d g l f B;intro d g l f;clear p6;have p:=d.cell;have j:=d.frozen;go_wp2;clear p j;have k:=ae.t2 d T I L J;replace F:=F.s k
    exact bq (v:= .tuple #[.agg #[.bool T,.slice I L J],.bool true]) (by simp[results,results64,go_sem,k.box.cell]) rfl ⟨_,_,_,_,rfl,F,by omega,(k.below f.out (by omega))⟩
 ·obtain⟨fb,fi,hb⟩:=rt S
  obtain rfl:false=t:=by rw[<-u.out,fb]
  obtain rfl:0=z:=by rw[<-HZ.out,fi]
  obtain⟨N,hN⟩:∃N,(iL 2 s1 M1 E1).1=N:=⟨_,rfl⟩;obtain⟨G,hG⟩:∃N,(iL 2 s1 M1 E1).2=N:=⟨_,rfl⟩;have m0:=xE S;have i:=g.cell
  go_wp2_with fail
  refine(jq m0 S.top hb hN hG).mono ?_;rintro X w4 ⟨s5,A5,n5,c5,rfl,q,k5,B⟩;clear i;replace d:=d.b B;replace f:=aj f B;clear B;clear hN hG hb HZ u fb fi m0 q
  go_upto_region 3 with fail
  have R:=d.lt;generalize h:w4.alloc _=w5 at *;obtain⟨l,r⟩:=Bo.nw h;clear h;replace d:=d.b r;replace f:=aj f r;clear r;have p:=d.cell;have j:=d.frozen;go_wp2;clear p j;have k:=ae.t2 d false none 0 0;exact bq (v:= .tuple #[.agg #[.bool false,.slice none 0 0],.bool false]) (by simp[results,results64,go_sem,k.box.cell]) rfl ⟨_,_,_,_,rfl,⟨Nm.zero,rfl⟩,Nat.zero_le _,(k.below f.out (by omega))⟩
def Gb:Sp->List Int
 | none=>[]
 | some (a,_)=>[a]
def BQ:Sp->List Int
 | none=>[]
 | some (_,b)=>[b]
def ed:List Sp->List Int
 | []=>[]
 | x::l=>Gb x ++ed l
def dW:List Sp->List Int
 | []=>[]
 | x::l=>BQ x ++dW l
theorem jO:∀(l m:List Sp),ed (l ++m)=ed l ++ed m
 | [],m=>rfl
 | x::l,m=>by
  show Gb x ++ed (l ++m)=(Gb x ++ed l)++ed m
  rw[jO l m,List.append_assoc]
theorem iN:∀(l m:List Sp),dW (l ++m)=dW l ++dW m
 | [],m=>rfl
 | x::l,m=>by
  show BQ x ++dW (l ++m)=(BQ x ++dW l)++dW m
  rw[iN l m,List.append_assoc]
theorem tL{l:List Sp}{k:Nat}(h:k < l.length):ed (l.take (k+1))=ed (l.take k)++Gb (l.getD k none):=by
 rw[List.take_succ_eq_append_getElem h,jO,List.getD_eq_getElem?_getD,List.getElem?_eq_getElem h];exact congrArg _ (List.append_nil _)
theorem pS{l:List Sp}{k:Nat}(h:k < l.length):dW (l.take (k+1))=dW (l.take k)++BQ (l.getD k none):=by
 rw[List.take_succ_eq_append_getElem h,iN,List.getD_eq_getElem?_getD,List.getElem?_eq_getElem h];exact congrArg _ (List.append_nil _)
theorem kG:∀l:List Sp,(ed l).length<=l.length
 | []=>Nat.le_refl _
 | none::l=>Nat.le_succ_of_le (kG l)
 | some (a,b)::l=>Nat.succ_le_succ (kG l)
theorem yv (A B a b:Int):eC (du A B) (some (a,b))=du (max A a) (min B b):=by
 by_cases h:A<=B/\A < 19342822337206103650074625/\ -19342822337206103650074625 < B
 ·rw[bj h.1 h.2.1 h.2.2]
  rfl
 ·rw[bT h,bT (fun c=>h (by omega))]
  rfl
theorem mu:∀(l:List Sp) (A B:Int),(ed l).length=l.length->l.foldl eC (du A B)=du ((ed l).foldl max A) ((dW l).foldl min B)
 | [],A,B,_=>rfl
 | none::l,A,B,h=>by
  have h1:(ed l).length=l.length+1:=h
  have h2:=kG l
  omega
 | some (a,b)::l,A,B,h=>by
  show l.foldl eC (eC (du A B) (some (a,b)))=_
  rw[yv];exact mu l (max A a) (min B b) (Nat.succ_inj.1 h)
theorem tO{l:List Sp}(h:(ed l).length=l.length):iP l=du (nk (ed l)) (oJ (dW l)):=by
 have e:sF=du (-19342822337206103650074625) 19342822337206103650074625:=(bj (by omega) (by omega) (by omega)).symm
 unfold iP nk oJ
 rw[e,dC];exact mu l _ _ h
theorem mw:∀(l:List Sp) (x:Sp),(ed l).length < l.length->l.foldl eC x=none
 | [],x,h=>absurd h (Nat.lt_irrefl _)
 | none::l,x,h=>by
  show l.foldl eC (eC x none)=none
  rw[kJ];exact kK l
 | some (a,b)::l,x,h=>mw l _ (Nat.lt_of_succ_lt_succ h)
theorem Cw{l:List Sp}(h:(ed l).length < l.length):iP l=none:=mw l sF h
theorem xL{A B a b:Int}(h:A=19342822337206103650074625/\B= -19342822337206103650074625\/A<=B/\A < 19342822337206103650074625/\ -19342822337206103650074625 < B)(k:dc (some (a,b))):
  bc (du A B) (some (a,b))=du (min A a) (max B b)/\(min A a<=max B b/\min A a < 19342822337206103650074625/\ -19342822337206103650074625 < max B b):=by
 obtain⟨d,e,f,g,i⟩:=k;refine⟨?_,by omega,by omega,by omega⟩
 rcases h with⟨rfl,rfl⟩ | ⟨h1,h2,c⟩
 ·rw[bT (by omega),bj (by omega) (by omega) (by omega)]
  have e1:min 19342822337206103650074625 a=a:=by omega
  have e2:max (-19342822337206103650074625) b=b:=by omega
  rw[e1,e2]
  rfl
 ·rw[bj h1 h2 c]
  rfl
theorem jB:∀(l:List Sp) (A B:Int),(A=19342822337206103650074625/\B= -19342822337206103650074625\/A<=B/\A < 19342822337206103650074625/\ -19342822337206103650074625 < B)->(∀y ∈ l,dc y)->l.foldl bc (du A B)=du ((ed l).foldl min A) ((dW l).foldl max B)
 | [],A,B,_,_=>rfl
 | none::l,A,B,h,k=>by
  show l.foldl bc (bc (du A B) none)=_
  rw[io]
  exact jB l A B h (fun y hy=>k y (List.mem_cons_of_mem _ hy))
 | some (a,b)::l,A,B,h,k=>by
  obtain⟨e,g⟩:=xL h (k _ (List.mem_cons_self ..))
  show l.foldl bc (bc (du A B) (some (a,b)))=_
  rw[e]
  exact jB l _ _ (.inr g) (fun y hy=>k y (List.mem_cons_of_mem _ hy))
theorem te{l:List Sp}(h:∀y ∈ l,dc y):eu l=du (oJ (ed l)) (nk (dW l)):=by
 have e:(none:Sp)=du 19342822337206103650074625 (-19342822337206103650074625):=(bT (by omega)).symm
 unfold eu nk oJ
 rw[e,dC];exact jB l _ _ (.inl ⟨rfl,rfl⟩) h
def iS:List (Int × Bool × Int × Int)->List Value
 | []=>[]
 | (K,s,M,E)::l=> .int .i64 K:: .bool s:: .int .u64 M:: .int .i64 E::iS l
theorem jQ:∀l m,iS (l ++m)=iS l ++iS m
 | [],m=>rfl
 | (K,s,M,E)::l,m=>by
  show _::_::_::_::iS (l ++m)=_
  rw[jQ l m]
  rfl
theorem rP:∀(l:List (Int × Bool × Int × Int)) (k:Nat) (K:Int) (s:Bool) (M E:Int),l[k]?=some (K,s,M,E)->(iS l)[k*4]?=some (.int .i64 K)/\(iS l)[k*4+1]?=some (.bool s)/\(iS l)[k*4+2]?=some (.int .u64 M)/\(iS l)[k*4+3]?=some (.int .i64 E)
 | [],k,_,_,_,_,h=>by cases h
 | (K,s,M,E)::l,0,_,_,_,_,h=>by
  cases h
  exact⟨rfl,rfl,rfl,rfl⟩
 | (K,s,M,E)::l,k+1,K2,s2,M2,E2,h=>by
  have:=rP l k K2 s2 M2 E2 h
  have e:(k+1)*4=k*4+4:=by omega
  rw[e];exact this
def Na (w:World)(base:Nat)(A:Option Addr)(n c:Nat)(l:List Int):Prop:=
 ∃r:List (Int × Bool × Int × Int),w.ownsRow base 24 4 (.slice A n c) n (iS r)/\r.length=n/\l.length=n/\∀k,k < n->∃K s M E,r[k]?=some (K,s,M,E)/\Fq K s M E (l.getD k 0)
theorem Na.nil (w:World)(base:Nat):Na w base none 0 0 []:=⟨[],World.ownsRow_nil w base _ 4,rfl,rfl,fun k h=>absurd h (Nat.not_lt_zero _)⟩
theorem Na.len{w:World}{base n c:Nat}{A:Option Addr}{l:List Int}(h:Na w base A n c l):l.length=n:=by
 obtain⟨_,_,_,h,_⟩:=h;exact h
theorem Na.below{w w':World}{base n c:Nat}{A:Option Addr}{l:List Int}(h:Na w base A n c l)(hb:Below w.heap.size w w'):Na w' base A n c l:=by
 obtain⟨r,h1,h2⟩:=h;refine⟨r,⟨h1.1,?_⟩,h2⟩
 rcases h1.2 with b | ⟨g,cap,a,d,hg,hh,q⟩
 ·exact .inl b
 ·refine .inr ⟨g,cap,a,d,hg,?_,q⟩;rw[hb.block g (Array.getElem?_eq_some_iff.1 hh).1];exact hh
abbrev Na.b:= @Na.below
instance {w w':World} {base n c:Nat} {A:Option Addr} {l:List Int}:Mv (Na w base A n c l) w w' (Na w' base A n c l):=⟨fun h b=>h.below b⟩
theorem Na.nl{w:World}{base n c:Nat}{A:Option Addr}{l:List Int}(h:Na w base A n c l)(hn:n<=1099511627776):Nl w A n c l:=by
 obtain⟨r,h1,h2,d,h4⟩:=h
 rcases h1.2 with⟨e1,e2⟩ | ⟨g,cap,e,b,hg,hh,f,hm,hs,ht⟩
 ·injection e1 with a1 a2 a3
  subst a1;subst a2;subst a3
  exact⟨d,Nat.le_refl _,by omega,fun h=>absurd h (Nat.lt_irrefl _)⟩
 ·injection b with a1 a2 a3
  subst a1;subst a3
  refine⟨d,f,hn,fun _=>⟨g,0,rfl,fun k hk=>?_⟩⟩
  obtain⟨K,s,M,E,i,q⟩:=h4 k hk;obtain⟨c0,c1,c2,c3⟩:=rP r k K s M E i
  have a:∀j v,(iS r)[j]?=some v->w.cell? ⟨g,0+j,none⟩=some v:=by
   intro j v b
   rw[cell_of_row w g (0+j) _ _ (0,0) hh,Nat.zero_add,<-Array.getElem?_toList];rw[<-ht,List.getElem?_take]at b
   split at b
   ·exact b
   ·cases b
  exact⟨K,s,M,E,a _ _ c0,by rw[Nat.add_assoc];exact a _ _ c1,by rw[Nat.add_assoc];exact a _ _ c2,by rw[Nat.add_assoc];exact a _ _ c3,q.top,q.rk⟩
