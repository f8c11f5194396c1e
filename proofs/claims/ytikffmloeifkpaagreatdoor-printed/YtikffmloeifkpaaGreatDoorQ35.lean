/- Contracts. -/
import Derived.Test.YtikffmloeifkpaaGreatDoorQ34
import Derived.Test.YtikffmloeifkpaaGreatDoorQ11
set_option maxHeartbeats 8000000
set_option maxRecDepth 100000
namespace Go.Proofs.YtikffmloeifkpaaGreatDoor
section
open Go.RowKit Go.Lib Go.Deep
variable {lens:Nat->Int} {fl:List Tr}
def dM(a:Nd):Bool:=decide (a.tag=2)||decide (a.tag=10)||(decide (a.tag=3)&&decide (a.site≠-1))||(decide (a.tag=6)&&decide (a.op≠27/\a.op≠28/\a.op≠29))
def bEK:Tr->List Int
 | .nil=>[]
 | .node _ _ a l q=>(if dM a then[a.site]else[])++(bEK l++bEK q)
theorem kU(F:Fl){s j:Int}(b:Bool)(h:j≠s):iD F s b j=F j:=if_neg h
theorem rW{b o:Nat}{a:Nd}{l q:Tr}{k:Int}(h:k ∉ bEK (.node b o a l q)):(dM a=true->k≠a.site)/\k ∉ bEK l/\k ∉ bEK q:=by
 unfold bEK at h;simp only[List.mem_append,not_or]at h;refine⟨fun ho e=>h.1 ?_,h.2.1,h.2.2⟩;rw[if_pos ho,e];exact List.mem_singleton.2 rfl
theorem aBA{b o:Nat}{a:Nd}{l q:Tr}{alive:Bool}{vs:Vr}{F:Fl}(ht:a.tag=0):exA lens fl alive vs (.node b o a l q) F=([cQ a.val],F):=by
 show(if a.tag=0 then _ else _)=_;rw[if_pos ht]
theorem aB9{b o:Nat}{a:Nd}{l q:Tr}{alive:Bool}{vs:Vr}{F:Fl}(ht:a.tag=1):exA lens fl alive vs (.node b o a l q) F=([vs a.which.toNat],F):=by
 show(if a.tag=0 then _ else _)=_;rw[Oh,if_pos Oa]
theorem zT{b o:Nat}{a:Nd}{l q:Tr}{alive:Bool}{vs:Vr}{F:Fl}(ht:a.tag=2):exA lens fl alive vs (.node b o a l q) F=([bEE],iD (exA lens fl alive vs l F).2 a.site ((decide (0<=(hdR (exA lens fl alive vs l F).1).1)&&decide ((hdR (exA lens fl alive vs l F).1).2 < lens a.which.toNat))||!alive)):=by
 show(if a.tag=0 then _ else _)=_;rw[Oh,Oh,if_pos Oa]
theorem xE{b o:Nat}{a:Nd}{l q:Tr}{alive:Bool}{vs:Vr}{F:Fl}(ht:a.tag=3):exA lens fl alive vs (.node b o a l q) F=([bEE],if a.site= -1 then(exA lens fl alive vs l F).2 else iD (exA lens fl alive vs l F).2 a.site (eU (nY (exA lens fl alive vs l F).1) (aU (fl.getD a.which.toNat .nil))||!alive)):=by
 show(if a.tag=0 then _ else _)=_;rw[Oh,Oh,Oh,if_pos Oa]
theorem zS{b o:Nat}{a:Nd}{l q:Tr}{alive:Bool}{vs:Vr}{F:Fl}(ht:a.tag=4\/a.tag=20):exA lens fl alive vs (.node b o a l q) F=(exA lens fl alive vs l F):=by
 show(if a.tag=0 then _ else _)=_;rw[Oh,Oh,Oh,Oh,if_pos Oa]
theorem aB8{b o:Nat}{a:Nd}{l q:Tr}{alive:Bool}{vs:Vr}{F:Fl}(ht:a.tag=5):exA lens fl alive vs (.node b o a l q) F=([nG (hdR (exA lens fl alive vs l F).1)],(exA lens fl alive vs l F).2):=by
 show(if a.tag=0 then _ else _)=_;rw[Oh,Oh,Oh,Oh,Oh,if_pos Oa]
theorem tR{b o:Nat}{a:Nd}{l q:Tr}{alive:Bool}{vs:Vr}{F:Fl}(ht:a.tag=6)(ho:a.op=27):exA lens fl alive vs (.node b o a l q) F=([kH (hdR (exA lens fl alive vs l F).1) (hdR (exA lens fl alive vs q (exA lens fl alive vs l F).2).1)],(exA lens fl alive vs q (exA lens fl alive vs l F).2).2):=by
 show(if a.tag=0 then _ else _)=_;rw[Oh,Oh,Oh,Oh,Oh,Oh,if_pos Oa,if_pos ho]
theorem tS{b o:Nat}{a:Nd}{l q:Tr}{alive:Bool}{vs:Vr}{F:Fl}(ht:a.tag=6)(ho:a.op=28):exA lens fl alive vs (.node b o a l q) F=([gX (hdR (exA lens fl alive vs l F).1) (hdR (exA lens fl alive vs q (exA lens fl alive vs l F).2).1)],(exA lens fl alive vs q (exA lens fl alive vs l F).2).2):=by
 show(if a.tag=0 then _ else _)=_;rw[Oh,Oh,Oh,Oh,Oh,Oh,if_pos Oa,Oh,if_pos ho]
theorem tQ{b o:Nat}{a:Nd}{l q:Tr}{alive:Bool}{vs:Vr}{F:Fl}(ht:a.tag=6)(ho:a.op=29):exA lens fl alive vs (.node b o a l q) F=([gW (hdR (exA lens fl alive vs l F).1) (hdR (exA lens fl alive vs q (exA lens fl alive vs l F).2).1)],(exA lens fl alive vs q (exA lens fl alive vs l F).2).2):=by
 show(if a.tag=0 then _ else _)=_;rw[Oh,Oh,Oh,Oh,Oh,Oh,if_pos Oa,Oh,Oh,if_pos ho]
theorem qH{b o:Nat}{a:Nd}{l q:Tr}{alive:Bool}{vs:Vr}{F:Fl}(ht:a.tag=6)(ho:a.op≠27/\a.op≠28/\a.op≠29):exA lens fl alive vs (.node b o a l q) F=([if a.op=30 then iQ (hdR (exA lens fl alive vs l F).1) (hdR (exA lens fl alive vs q (exA lens fl alive vs l F).2).1)else iO (hdR (exA lens fl alive vs l F).1) (hdR (exA lens fl alive vs q (exA lens fl alive vs l F).2).1)],iD (exA lens fl alive vs q (exA lens fl alive vs l F).2).2 a.site (!jD (hdR (exA lens fl alive vs q (exA lens fl alive vs l F).2).1) 0||!alive)):=by
 show(if a.tag=0 then _ else _)=_;rw[Oh,Oh,Oh,Oh,Oh,Oh,if_pos Oa,if_neg ho.1,if_neg ho.2.1,if_neg ho.2.2]
theorem wM{b o:Nat}{a:Nd}{l q:Tr}{alive:Bool}{vs:Vr}{F:Fl}(ht:a.tag=15):exA lens fl alive vs (.node b o a l q) F=((exA lens fl alive vs l F).1++(exA lens fl alive vs q (exA lens fl alive vs l F).2).1,(exA lens fl alive vs q (exA lens fl alive vs l F).2).2):=by
 show(if a.tag=0 then _ else _)=_;rw[Oh,Oh,Oh,Oh,Oh,Oh,Oh,if_pos ht]
theorem aGN{b o:Nat}{a:Nd}{l q:Tr}{alive:Bool}{vs:Vr}{F:Fl}(ht:7<=a.tag/\a.tag≠15/\a.tag≠20):exA lens fl alive vs (.node b o a l q) F=([],F):=by
 show(if a.tag=0 then _ else _)=_;rw[Oh,Oh,Oh,Oh,Oh,Oh,Oh,Oh]
theorem gS{alive:Bool}{vs:Vr}{k:Int}:∀ (t:Tr) (F:Fl),k ∉ bEK t->(exA lens fl alive vs t F).2 k=F k:=by
 intro t
 induction t with
 |nil=>intro F _;rfl
 |node b o a l q ihl ihq=>
  intro F h;obtain⟨h0,hl,hq⟩:=rW h;have e1:=ihl F hl;have e2:=(ihq (exA lens fl alive vs l F).2 hq).trans e1
  by_cases t0:a.tag=0
  ·rw[aBA t0]
  by_cases t1:a.tag=1
  ·rw[aB9 t1]
  by_cases t2:a.tag=2
  ·rw[zT t2];exact(kU _ _ (h0 (by simp[dM,t2]))).trans e1
  by_cases t3:a.tag=3
  ·rw[xE t3]
   by_cases hs:a.site= -1
   ·rw[if_pos hs];exact e1
   ·rw[if_neg hs];exact(kU _ _ (h0 (by simp[dM,t3,hs]))).trans e1
  by_cases t4:a.tag=4\/a.tag=20
  ·rw[zS t4];exact e1
  by_cases t5:a.tag=5
  ·rw[aB8 t5];exact e1
  by_cases t6:a.tag=6
  ·by_cases o1:a.op=27
   ·rw[tR t6 o1];exact e2
   by_cases o2:a.op=28
   ·rw[tS t6 o2];exact e2
   by_cases o3:a.op=29
   ·rw[tQ t6 o3];exact e2
   ·rw[qH t6 ⟨o1,o2,o3⟩];exact(kU _ _ (h0 (by simp[dM,t6,o1,o2,o3]))).trans e2
  by_cases t15:a.tag=15
  ·rw[wM t15];exact e2
  ·rw[aGN ⟨Oa,t15,Oa⟩]
theorem sI{k:Int}:∀ (t:Tr) (s:St) (F:Fl),k ∉ bEK t->(cdA lens fl t s F).2.2 k=F k:=by
 intro t
 induction t with
 |nil=>intro s F _;rfl
 |node b o a l q ihl ihq=>
  intro s F h;obtain⟨_,hl,hq⟩:=rW h;unfold cdA
  split
  ·exact(gS q _ hq).trans (gS l F hl)
  split
  ·exact(ihq _ _ hq).trans (ihl s F hl)
  ·exact(ihq _ _ hq).trans (ihl s F hl)
theorem aIM{m:Nat->Bool}{c:St->Fl->St × St × Fl}{f:St->Fl->St × Fl}{k:Int}(hc:∀ s F,(c s F).2.2 k=F k)(hf:∀ s F,(f s F).2 k=F k):∀ (n round:Nat) (s:St) (F:Fl),(whA m c f n round s F).2 k=F k:=by
 intro n
 induction n with
 |zero=>intro round s F;rfl
 |succ n ih=>
  intro round s F;have e:(f (c s F).1 (c s F).2.2).2 k=F k:=(hf _ _).trans (hc _ _);unfold whA;dsimp only
  split
  ·split
   ·exact(ih _ _ _).trans e
   ·exact e
  ·exact e
end
section
open Go.RowKit Go.Lib Go.Deep Go.Maps Go.ChangeMaps Go.MapKept
def aJX(m:Bool):Obj->Prop
 | .cells _ t _=>(m=false/\t=55)\/(m=true/\(t=261\/t=173))
 | .map _ _=>m=true
 |_=>False
structure Fs(H:Nat)(m:Bool)(w w':World):Prop where
 os:w'.os=w.os
 tape:w'.tape=w.tape
 output:w'.output=w.output
 size:w.heap.size<=w'.heap.size
 low:∀ (k:Nat),k < H->w'.heap[k]?=w.heap[k]?
 oth:∀ (k:Nat) (o:Obj),w.heap[k]?=some o->¬aJX m o->w'.heap[k]?=some o
variable {H:Nat} {m:Bool} {u w w':World}
theorem Fs.refl(H:Nat)(m:Bool)(w:World):Fs H m w w:=⟨rfl,rfl,rfl,Qc _,fun _ _=>rfl,fun _ _ h _=>h⟩
theorem Fs.trans(h:Fs H m u w)(k:Fs H m w w'):Fs H m u w':=
 ⟨k.os.trans h.os,k.tape.trans h.tape,k.output.trans h.output,Qd h.size k.size,fun i hi=>(k.low i hi).trans (h.low i hi),fun i o hi hm=>k.oth i o (h.oth i o hi hm) hm⟩
theorem Fs.below(h:Fs H m w w'):Below H w w':=⟨h.os,h.tape,h.output,h.size,h.low⟩
theorem Fs.of(h:Below w.heap.size w w')(hH:H<=w.heap.size)(m:Bool):Fs H m w w':=⟨h.os,h.tape,h.output,h.size,fun k hk=>h.block k Oa,fun k o hk _=>(h.block k (Oo hk)).trans hk⟩
theorem Fs.drewN(h:Fs H m u w)(n:Nat):Fs H m u (w.drewN n):=⟨h.os,h.tape,h.output,h.size,h.low,h.oth⟩
theorem Fs.drew(h:Fs H m u w):Fs H m u w.drew:=⟨h.os,h.tape,h.output,h.size,h.low,h.oth⟩
theorem Fs.alloc(h:Fs H m u w)(o:Obj)(hH:H<=w.heap.size):Fs H m u (w.alloc o):=h.trans (Fs.of ((Below.refl _ _).alloc Ol _) hH m)
theorem Fs.set(h:Fs H m u w){k:Nat}{cs:Array Value}{t:TypeId}{fr:Nat × Nat}(hk:w.heap[k]?=some (.cells cs t fr))(hH:H<=k)(hm:aJX m (.cells cs t fr))(o:Nat)(x:Value):Fs H m u (w.setCell ⟨k,o,none⟩ x):=by
 refine h.trans ⟨rfl,rfl,rfl,by simp[World.setCell],fun i hi=>Om (by show i≠k;omega),fun i ob hi hn=>(Om ?_).trans hi⟩;intro e;replace e:i=k:=e;subst e;rw[hk]at hi;cases hi;exact hn hm
theorem Fs.turned{b:Nat}(h:Fs H true u w)(hb:H<=b)(ht:w.mapTurned w' b):Fs H true u w':=by
 obtain⟨es,cl,es',cl',hm,rfl⟩:=ht;refine h.trans ⟨rfl,rfl,rfl,by simp[setBlock],fun k hk=>heap_setBlock_other hm _ Oa,fun k o ho hn=>(heap_setBlock_other hm _ ?_).trans ho⟩;intro e;subst e;rw[hm]at ho;cases ho;exact hn rfl
theorem Fs.keep(h:Fs H m w w'){k:Nat}{cs:Array Value}{t:TypeId}{fr:Nat × Nat}(hk:w.heap[k]?=some (.cells cs t fr))(h1:t≠55)(h2:t≠261\/m=false)(h3:t≠173\/m=false):w'.heap[k]?=some (.cells cs t fr):=by
 refine h.oth k _ hk ?_;rintro(e|⟨e,e2|e2⟩)
 ·exact h1 e.2
 ·rcases h2 with h2|h2
  ·exact h2 e2
  ·rw[e]at h2;cases h2
 ·rcases h3 with h3|h3
  ·exact h3 e2
  ·rw[e]at h3;cases h3
theorem Fs.map(h:Fs H false w w'){k:Nat}{es:Array MapEntry}{cl:Nat}(hk:w.heap[k]?=some (.map es cl)):w'.heap[k]?=some (.map es cl):=h.oth k _ hk (by unfold aJX;simp)
structure aCP(vs:Vr)(cs:Array Value):Prop where
 lo:∀ i,i < 12->cs[i*2]?=some (.int .i64 (vs i).1)
 hi:∀ i,i < 12->cs[i*2+1]?=some (.int .i64 (vs i).2)
def dW(b:Nat)(vs:Vr)(w:World):Prop:=∃ cs,w.heap[b]?=some (.cells cs 261 (0,0))/\aCP vs cs
theorem dW.cells{b:Nat}{vs:Vr}(h:dW b vs w):(∀ i,i < 12->w.cell? ⟨b,i*2,none⟩=some (.int .i64 (vs i).1)/\w.cell? ⟨b,i*2+1,none⟩=some (.int .i64 (vs i).2))/\∀ o,w.frozen? ⟨b,o,none⟩=false:=by
 obtain⟨cs,hc,h1,h2⟩:=h;exact⟨fun i hi=>⟨Og hc (h1 i hi),Og hc (h2 i hi)⟩,fun o=>by simp[World.frozen?,hc]⟩
theorem dW.same{b:Nat}{vs:Vr}(h:dW b vs w)(e:w'.heap[b]?=w.heap[b]?):dW b vs w':=by
 obtain⟨cs,hc,h1⟩:=h;exact⟨cs,e.trans hc,h1⟩
theorem dW.fs{b:Nat}{vs:Vr}(h:dW b vs w)(hx:Fs H false w w'):dW b vs w':=by
 obtain⟨cs,hc,h1⟩:=h;exact⟨cs,hx.keep hc Ob Oy Oy,h1⟩
theorem dW.eq{b:Nat}{vs vs':Vr}(h:dW b vs w)(e:∀ i,i < 12->vs' i=vs i):dW b vs' w:=by
 obtain⟨cs,hc,h1,h2⟩:=h;exact⟨cs,hc,fun i hi=>by rw[e i hi];exact h1 i hi,fun i hi=>by rw[e i hi];exact h2 i hi⟩
theorem aCP.put{vs:Vr}{cs:Array Value}(h:aCP vs cs){j:Nat}(hj:j < 12)(r:Rg):aCP (oT vs j r) ((cs.setIfInBounds (j*2) (.int .i64 r.1)).setIfInBounds (j*2+1) (.int .i64 r.2)):=by
 refine⟨fun i hi=>?_,fun i hi=>?_⟩
 ·refine bT Oa ?_
  by_cases e:i=j
  ·subst e;rw[nX (h.lo i hi)];show _=some (Value.int .i64 (if i=i then r else vs i).1);rw[if_pos rfl]
  ·rw[bT Oa (h.lo i hi)];show _=some (Value.int .i64 (if i=j then r else vs i).1);rw[if_neg e]
 ·by_cases e:i=j
  ·subst e;have:=bT (v:= .int .i64 r.1) (o:=i*2) Oa (h.hi i hi);rw[nX this];show _=some (Value.int .i64 (if i=i then r else vs i).2);rw[if_pos rfl]
  ·rw[bT Oa (bT Oa (h.hi i hi))];show _=some (Value.int .i64 (if i=j then r else vs i).2);rw[if_neg e]
theorem dW.put{b:Nat}{vs:Vr}(h:dW b vs w){j:Nat}(hj:j < 12)(r:Rg):dW b (oT vs j r) ((w.setCell ⟨b,j*2,none⟩ (.int .i64 r.1)).setCell ⟨b,j*2+1,none⟩ (.int .i64 r.2)):=by
 obtain⟨cs,hc,h1⟩:=h;exact⟨_,aM _ (aM _ hc),h1.put hj r⟩
structure FlW(H:Nat)(vS:Value)(S:Sl)(F:Fl)(w:World):Prop where
 ex:(S=[]/\∃ sp cp,vS= .slice sp 0 cp)\/∃ g cp cur,vS= .slice (some ⟨g,0,none⟩) S.length cp/\H<=g/\w.heap[g]?=some (.cells cur 55 (0,0))/\
  ∀ i (hi:i < S.length),cur[i*3]?=some (.int .i64 S[i].1)/\cur[i*3+1]?=some (.int .i64 S[i].2)/\cur[i*3+2]?=some (.bool (F i))
theorem FlW.same{vS:Value}{S:Sl}{F:Fl}(h:FlW H vS S F w)(hx:∀ (k:Nat) (cur:Array Value),w.heap[k]?=some (.cells cur 55 (0,0))->w'.heap[k]?=w.heap[k]?):FlW H vS S F w':=by
 rcases h.ex with h|⟨g,cp,cur,h1,h2,h3,h4⟩
 ·exact⟨.inl h⟩
 ·exact⟨.inr ⟨g,cp,cur,h1,h2,(hx g cur h3).trans h3,h4⟩⟩
theorem FlW.fsT{vS:Value}{S:Sl}{F:Fl}(h:FlW H vS S F w)(hx:Fs H true w w'):FlW H vS S F w':=by
 refine h.same fun k cur hk=>(hx.oth k _ hk ?_).trans hk.symm;rintro(e|⟨_,e|e⟩)
 ·exact absurd e.1 Ob
 ·exact absurd e Ob
 ·exact absurd e Ob
structure Fu(H:Nat)(w w':World):Prop where
 os:w'.os=w.os
 tape:w'.tape=w.tape
 output:w'.output=w.output
 size:w.heap.size<=w'.heap.size
 low:∀ (k:Nat),k < H->w'.heap[k]?=w.heap[k]?
 oth:∀ (k:Nat) (o:Obj),w.heap[k]?=some o->¬aJX true o->¬aJX false o->w'.heap[k]?=some o
theorem Fs.both(h:Fs H m w w'):Fu H w w':=⟨h.os,h.tape,h.output,h.size,h.low,fun k o hk h1 h2=>h.oth k o hk (m.rec (motive:=fun m=>¬aJX m o) h2 h1)⟩
theorem Fu.refl(H:Nat)(w:World):Fu H w w:=(Fs.refl H true w).both
theorem Fu.trans(h:Fu H u w)(k:Fu H w w'):Fu H u w':=
 ⟨k.os.trans h.os,k.tape.trans h.tape,k.output.trans h.output,Qd h.size k.size,fun i hi=>(k.low i hi).trans (h.low i hi),fun i o hi h1 h2=>k.oth i o (h.oth i o hi h1 h2) h1 h2⟩
theorem Fu.keep(h:Fu H w w'){k:Nat}{cs:Array Value}{t:TypeId}{fr:Nat × Nat}(hk:w.heap[k]?=some (.cells cs t fr))(h1:t≠55/\t≠261/\t≠173):w'.heap[k]?=some (.cells cs t fr):=by
 refine h.oth k _ hk ?_ ?_
 ·rintro(e|⟨_,e|e⟩)
  ·exact absurd e.1 Ob
  ·exact h1.2.1 e
  ·exact h1.2.2 e
 ·rintro(e|⟨e,_⟩)
  ·exact h1.1 e.2
  ·exact absurd e Ob
theorem FlW.slice{vS:Value}{S:Sl}{F:Fl}(h:FlW H vS S F w):∃ sp cp,vS= .slice sp S.length cp:=by
 rcases h.ex with⟨rfl,sp,cp,h⟩|⟨g,cp,cur,h1,_⟩
 ·exact⟨sp,cp,h⟩
 ·exact⟨_,cp,h1⟩
end
section
open Go.RowKit Go.Lib Go.Deep Go.Maps Go.ChangeMaps Go.MapKept
abbrev Kn:=Int->St
def bEI(K:Kn)(p:Int)(s:St):Kn:=fun q=>if q=p then s else K q
theorem bU(K:Kn)(p:Int)(s:St):bEI K p s p=s:=if_pos rfl
theorem cE{K:Kn}{p q:Int}{s:St}(h:q≠p):bEI K p s q=K q:=if_neg h
structure LkE(H lb pb kb:Nat)(vS:Value)(nw c:Nat)(K:Kn)(E:Int->Option Nat)(w:World):Prop where
 blk:w.heap[lb]?=some (.cells #[.pointer (some ⟨pb,0,none⟩),vS,.map (some kb),.int .i64 (nw:Int)] 173 (0,0))
 map:Pm w kb (c+1) E
 dead:∀ p,K p=none->E p=none
 live:∀ p vs,K p=some vs->∃ b,E p=some b/\H<=b/\dW b vs w
 inj:∀ p q b,E p=some b->E q=some b->p=q
 far:∀ p,(nw:Int) < p->K p=none
 ge:H<=lb/\H<=kb
 few:nw<=c/\c<=4611686018427387904
def LkW(H lb pb kb:Nat)(vS:Value)(nw c:Nat)(K:Kn)(w:World):Prop:=∃ E,LkE H lb pb kb vS nw c K E w
variable {H lb pb kb nw c:Nat} {vS:Value} {K:Kn} {m:Bool} {u w w':World}
theorem cO{w:World}{k:Nat}{a b c d:Value}{t:TypeId}(h:w.heap[k]?=some (.cells #[a,b,c,d] t (0,0))):
 w.cell? ⟨k,0,none⟩=some a/\w.cell? ⟨k,1,none⟩=some b/\w.cell? ⟨k,2,none⟩=some c/\w.cell? ⟨k,3,none⟩=some d/\∀ o,w.frozen? ⟨k,o,none⟩=false:=
 ⟨cell_of_row _ _ _ _ _ _ h,cell_of_row _ _ _ _ _ _ h,cell_of_row _ _ _ _ _ _ h,cell_of_row _ _ _ _ _ _ h,fun o=>by simp[World.frozen?,h]⟩
theorem aG{w:World}{k:Nat}{a b c:Value}{t:TypeId}(h:w.heap[k]?=some (.cells #[a,b,c] t (0,0))):
 w.cell? ⟨k,0,none⟩=some a/\w.cell? ⟨k,1,none⟩=some b/\w.cell? ⟨k,2,none⟩=some c/\∀ o,w.frozen? ⟨k,o,none⟩=false:=
 ⟨cell_of_row _ _ _ _ _ _ h,cell_of_row _ _ _ _ _ _ h,cell_of_row _ _ _ _ _ _ h,fun o=>by simp[World.frozen?,h]⟩
theorem LkE.fs{E:Int->Option Nat}(h:LkE H lb pb kb vS nw c K E w)(hx:Fs H false w w'):LkE H lb pb kb vS nw c K E w':=by
 obtain⟨es,cl,hm⟩:=h.map.ismap;refine⟨hx.keep h.blk Ob Oy Oy,h.map.same ((hx.map hm).trans hm.symm),h.dead,fun p vs hp=>?_,h.inj,h.far,h.ge,h.few⟩;obtain⟨b,e1,e2,e3⟩:=h.live p vs hp;exact⟨b,e1,e2,e3.fs hx⟩
theorem LkW.fs(h:LkW H lb pb kb vS nw c K w)(hx:Fs H false w w'):LkW H lb pb kb vS nw c K w':=by
 obtain⟨E,h⟩:=h;exact⟨E,h.fs hx⟩
theorem LkW.mono(h:LkW H lb pb kb vS nw c K w){c':Nat}(hc:c<=c')(h0:c'<=4611686018427387904):LkW H lb pb kb vS nw c' K w:=by
 obtain⟨E,h⟩:=h;exact⟨E,h.blk,h.map.mono Oa,h.dead,h.live,h.inj,h.far,h.ge,Oi h.few,h0⟩
theorem LkW.drewN(h:LkW H lb pb kb vS nw c K w)(n:Nat):LkW H lb pb kb vS nw c K (w.drewN n):=h.fs ((Fs.refl _ _ _).drewN n)
theorem LkE.drew{E:Int->Option Nat}(h:LkE H lb pb kb vS nw c K E w):LkE H lb pb kb vS nw c K E w.drew:=h.fs (Fs.refl _ _ _).drew
theorem LkE.drewN{E:Int->Option Nat}(h:LkE H lb pb kb vS nw c K E w)(n:Nat):LkE H lb pb kb vS nw c K E (w.drewN n):=h.fs ((Fs.refl _ _ _).drewN n)
theorem LkW.drew(h:LkW H lb pb kb vS nw c K w):LkW H lb pb kb vS nw c K w.drew:=h.fs (Fs.refl _ _ _).drew
theorem LkE.size{E:Int->Option Nat}(h:LkE H lb pb kb vS nw c K E w):H<=w.heap.size:=by have:=(Oo h.blk);have:=h.ge.1;omega
theorem LkW.size(h:LkW H lb pb kb vS nw c K w):H<=w.heap.size:=by obtain⟨E,h⟩:=h;exact h.size
theorem mU{b k:Nat}{cs:Array Value}{t:TypeId}{fr:Nat × Nat}(ht:w.mapTurned w' b)(hk:w.heap[k]?=some (.cells cs t fr)):w'.heap[k]?=some (.cells cs t fr):=by
 obtain⟨es,cl,es',cl',hm,rfl⟩:=ht;refine(heap_setBlock_other hm _ ?_).trans hk;intro e;subst e;rw[hm]at hk;cases hk
theorem dW.turned{b k:Nat}{vs:Vr}(h:dW k vs w)(ht:w.mapTurned w' b):dW k vs w':=by
 obtain⟨cs,hc,h1⟩:=h;exact⟨cs,mU ht hc,h1⟩
theorem LkW.kill(h:LkW H lb pb kb vS nw c K w)(p:Int)(hp:0<=p/\p<=9223372036854775807):
 ∃ w',(∀ ty,(Builtin.delete_ #[170,171] ty #[.map (some kb),.int .i64 p]).run Tryz.prog w= .ok (.tuple #[]) w')/\LkW H lb pb kb vS nw c (bEI K p none) w'/\Fs H true w w':=by
 obtain⟨E,h⟩:=h;obtain⟨w',hr,hm,ht⟩:=h.map.drop (p:=p) Oa;refine⟨w',hr,⟨_,mU ht h.blk,hm,fun q hq=>?_,fun q vs hq=>?_,fun q r b hq hr=>?_,fun q hq=>?_,h.ge,h.few⟩,(Fs.refl _ _ _).turned h.ge.2 ht⟩
 ·unfold kT bEI at*
  by_cases e:q=p
  ·rw[if_pos e]
  ·rw[if_neg e]at hq ⊢;exact h.dead q hq
 ·unfold kT bEI at*
  by_cases e:q=p
  ·rw[if_pos e]at hq;cases hq
  ·rw[if_neg e]at hq ⊢;obtain⟨b,e1,e2,e3⟩:=h.live q vs hq;exact⟨b,e1,e2,e3.turned ht⟩
 ·unfold kT at hq hr
  by_cases e:q=p
  ·rw[if_pos e]at hq;cases hq
  ·rw[if_neg e]at hq
   by_cases e2:r=p
   ·rw[if_pos e2]at hr;cases hr
   ·rw[if_neg e2]at hr;exact h.inj q r b hq hr
 ·unfold bEI
  split
  ·rfl
  ·exact h.far q hq
theorem LkE.at_{E:Int->Option Nat}(h:LkE H lb pb kb vS nw c K E w)(p:Int)(hp:0<=p/\p<=9223372036854775807):
 (Instr.lookup 170 (.map (some kb)) (.int .i64 p) true).run Tryz.prog w= .ok (.tuple #[aKI (E p),.bool (K p).isSome]) w/\
 (Instr.lookup 170 (.map (some kb)) (.int .i64 p) false).run Tryz.prog w= .ok (aKI (E p)) w:=by
 have e1:=h.map.look_ok (p:=p) Oa
 have e3:(E p).isSome=(K p).isSome:=by
  cases hk:K p with
  |none=>rw[h.dead p hk];rfl
  |some vs=>
   obtain⟨b,h5,_⟩:=h.live p vs hk;rw[h5];rfl
 rw[e3]at e1;exact⟨e1,h.map.look (p:=p) Oa⟩
theorem wG(h:LkW H lb pb kb vS nw c K w)(p:Int)(hp:0<=p/\p<=9223372036854775807):
 Calls Tryz.prog 261 #[.pointer (some ⟨lb,0,none⟩),.int .i64 p] w fun e w'=>e= .returned (.tuple #[])/\LkW H lb pb kb vS nw c (bEI K p none) w'/\Fs H true w w':=by
 obtain⟨w',hr,h2,hx⟩:=h.kill p hp;obtain⟨E,h⟩:=h;obtain⟨c0,c1,c2,c3,cf⟩:=cO h.blk;have HH:Hid _:=h2;have HX:Hid _:=hx;clear h2 hx h;go_enter Tryz.func261,Tryz.ntmps261
 go_wp2;go_end0
 exact⟨rfl,HH.out,HX.out⟩
theorem aFX(op:Int)(w:World)(ho:21<=op/\op<=26):Calls Tryz.prog 344 #[.int .i64 op] w fun e w'=>e= .returned (.int .i64 (aAB op))/\w=w':=by
 have hc:op=21\/op=22\/op=23\/op=24\/op=25\/op=26:=Oa
 rcases hc with rfl|rfl|rfl|rfl|rfl|rfl
 all_goals
  go_enter Tryz.func344,Tryz.ntmps344
  go_wp2;go_ret;exact⟨rfl,rfl⟩
theorem aCP.zero:aCP vr0 (Array.replicate 24 (.int .i64 0)):=by
 refine⟨fun i hi=>?_,fun i hi=>?_⟩
 ·rw[Array.getElem?_replicate,if_pos Oa];rfl
 ·rw[Array.getElem?_replicate,if_pos Oa];rfl
structure VwW(H lb pb vb xb:Nat)(vS:Value)(S:Sl)(F:Fl)(alive:Bool)(vs:Vr)(w:World):Prop where
 view:w.heap[vb]?=some (.cells #[.pointer (some ⟨lb,0,none⟩),.pointer (some ⟨xb,0,none⟩),.bool alive] 349 (0,0))
 look:∃ km nv,w.heap[lb]?=some (.cells #[.pointer (some ⟨pb,0,none⟩),vS,km,nv] 173 (0,0))
 vars:dW xb vs w
 fl:FlW H vS S F w
 size:H<=w.heap.size
end
section
open Go.RowKit Go.Lib Go.Deep Go.Maps Go.ChangeMaps Go.MapKept
variable {H lb pb kb vb xb nw c:Nat} {vS:Value} {K:Kn} {E:Int->Option Nat} {m:Bool} {S:Sl} {F:Fl} {alive:Bool} {vs:Vr} {u w w':World}
theorem zH{w:World}{k:Nat}{a b c a' b' c':Value}{t:TypeId}(h:w.heap[k]?=some (.cells #[a,b,c] t (0,0))):(((w.setCell ⟨k,0,none⟩ a').setCell ⟨k,1,none⟩ b').setCell ⟨k,2,none⟩ c').heap[k]?=some (.cells #[a',b',c'] t (0,0)):=by
 have h1:=aM (o:=2) c' (aM (o:=1) b' (aM (o:=0) a' h));simpa using h1
def bEU:Array Value:=#[.int .i64 0,.int .i64 0,.int .i64 0,.int .i64 0,.int .i64 0,.int .i64 0,.int .i64 0,.int .i64 0,.int .i64 0,.int .i64 0,.int .i64 0,.int .i64 0,.int .i64 0,.int .i64 0,.int .i64 0,.int .i64 0,.int .i64 0,.int .i64 0,.int .i64 0,.int .i64 0,.int .i64 0,.int .i64 0,.int .i64 0,.int .i64 0]
theorem aL6:aCP vr0 bEU:=by
 have h:bEU=Array.replicate 24 (.int .i64 0):=rfl;rw[h];exact aCP.zero
theorem xX(w:World):dW w.heap.size vr0 (w.alloc (.cells bEU 261)):=⟨bEU,Qb w _,aL6⟩
theorem aLD(h:LkE H lb pb kb vS nw c K E w)(p:Int)(hp:0<=p/\p<=9223372036854775807):
 Calls Tryz.prog 202 #[.pointer (some ⟨lb,0,none⟩),.int .i64 p] w fun e w'=>∃ xb,e= .returned (.agg #[.pointer (some ⟨lb,0,none⟩),.pointer (some ⟨xb,0,none⟩),.bool (K p).isSome])/\(K p≠none->E p=some xb)/\(K p=none->w.heap.size<=xb)/\dW xb (cC (K p)) w'/\Below w.heap.size w w':=by
 obtain⟨o0,h0⟩:∃ o0:Obj,o0= .cells #[.pointer none,.pointer none,.bool false] 349:=⟨_,rfl⟩;have hA:LkE H lb pb kb vS nw c K E (w.alloc o0):=h.fs ((Fs.refl H false w).alloc o0 h.size);have bA:Below w.heap.size w (w.alloc o0):=(Below.refl _ _).alloc Ol _;have zA:(w.alloc o0).heap.size=w.heap.size+1:=Od
 have kA:(w.alloc o0).heap[w.heap.size]?=some (.cells #[.pointer none,.pointer none,.bool false] 349 (0,0)):=by rw[h0];exact Qb w _
 obtain⟨c0,c1,c2,c3,cf⟩:=cO hA.blk;have lk:=(hA.at_ p hp).1;obtain⟨y0,y1,y2,yf⟩:=aG kA;have bW:∀ (W:World) (v1 v2 v3:Value),Below w.heap.size w W->Below w.heap.size w (((W.setCell ⟨w.heap.size,0,none⟩ v1).setCell ⟨w.heap.size,1,none⟩ v2).setCell ⟨w.heap.size,2,none⟩ v3):=fun W v1 v2 v3 hb=>((hb.setCell Ol _).setCell Ol _).setCell Ol _;have HB:Hid _:=bW;have HA:Hid (Below w.heap.size w (w.alloc o0)):=bA;have HK:Hid _:=kA;cases hK:K p with
 |none=>
  rw[hK]at lk;have hE:E p=none:=h.dead p hK;rw[hE]at lk
  change (Instr.lookup 170 (.map (some kb)) (.int .i64 p) true).run Tryz.prog (w.alloc o0)= .ok (.tuple #[.pointer none,.bool false]) (w.alloc o0)at lk
  clear hA h bA bW hE hK kA;go_enter Tryz.func202,Tryz.ntmps202
  go_upto_region 1 with fail
  rw[<-h0];clear h0;generalize w.alloc o0=wA at*;have h3:=zH (a':= .pointer (some ⟨lb,0,none⟩)) (b':= .pointer (some ⟨w.heap.size+1,0,none⟩)) (c':= .bool false) HK.out;have z3:(((wA.setCell ⟨w.heap.size,0,none⟩ (.pointer (some ⟨lb,0,none⟩))).setCell ⟨w.heap.size,1,none⟩ (.pointer (some ⟨w.heap.size+1,0,none⟩))).setCell ⟨w.heap.size,2,none⟩ (.bool false)).heap.size=w.heap.size+1:=by simp[World.setCell,zA]
  have FIN:Hid (∀ W,W=(((wA.setCell ⟨w.heap.size,0,none⟩ (.pointer (some ⟨lb,0,none⟩))).setCell ⟨w.heap.size,1,none⟩ (.pointer (some ⟨w.heap.size+1,0,none⟩))).setCell ⟨w.heap.size,2,none⟩ (.bool false))->dW (w.heap.size+1) vr0 (W.alloc (.cells bEU 261))/\Below w.heap.size w (W.alloc (.cells bEU 261))):=by
   rintro W rfl;have hv:=xX (((wA.setCell ⟨w.heap.size,0,none⟩ (.pointer (some ⟨lb,0,none⟩))).setCell ⟨w.heap.size,1,none⟩ (.pointer (some ⟨w.heap.size+1,0,none⟩))).setCell ⟨w.heap.size,2,none⟩ (.bool false));rw[z3]at hv;exact⟨hv,(HB.out wA _ _ _ HA.out).alloc (by rw[z3];omega) _⟩
  have k3:=(Below.heap_alloc _ (.cells bEU 261) _ (by rw[z3];omega)).trans h3;obtain⟨x0,x1,x2,_⟩:=aG k3;unfold bEU at x0 x1 x2;clear h3 z3 k3;go_wp2;refine bodyPost_ret (v:= .agg #[.pointer (some ⟨lb,0,none⟩),.pointer (some ⟨w.heap.size+1,0,none⟩),.bool false]) (by simp[results,Tryz.results202,go_sem,x0,x1,x2]) rfl ?_;exact⟨w.heap.size+1,rfl,fun h=>absurd rfl h,fun _=>Nat.le_succ _,(FIN.out _ rfl).1,(FIN.out _ rfl).2⟩
 |some vs=>
  rw[hK]at lk;obtain⟨b,hE,_,hv⟩:=h.live p vs hK;rw[hE]at lk
  change (Instr.lookup 170 (.map (some kb)) (.int .i64 p) true).run Tryz.prog (w.alloc o0)= .ok (.tuple #[.pointer (some ⟨b,0,none⟩),.bool true]) (w.alloc o0)at lk
  have h3:=zH (a':= .pointer (some ⟨lb,0,none⟩)) (b':= .pointer (some ⟨b,0,none⟩)) (c':= .bool true) kA;obtain⟨x0,x1,x2,_⟩:=aG h3;have h1:b < w.heap.size:=by obtain⟨cs,hc,_⟩:=hv;exact(Oo hc)
  have FIN:Hid (dW b vs ((((w.alloc o0).setCell ⟨w.heap.size,0,none⟩ (.pointer (some ⟨lb,0,none⟩))).setCell ⟨w.heap.size,1,none⟩ (.pointer (some ⟨b,0,none⟩))).setCell ⟨w.heap.size,2,none⟩ (.bool true))/\E p=some b):=⟨hv.same ((HB.out _ _ _ _ bA).block b h1),hE⟩;clear hA h bA bW hE hK kA h3 hv h1;go_enter Tryz.func202,Tryz.ntmps202
  go_upto_region 1 with fail
  rw[<-h0];clear h0;generalize w.alloc o0=wA at*;go_wp2;refine bodyPost_ret (v:= .agg #[.pointer (some ⟨lb,0,none⟩),.pointer (some ⟨b,0,none⟩),.bool true]) (by simp[results,Tryz.results202,go_sem,x0,x1,x2]) rfl ?_;exact⟨b,rfl,fun _=>FIN.out.2,fun h=>(by cases h),FIN.out.1,HB.out _ _ _ _ HA.out⟩
end
section
open Go.RowKit Go.Lib Go.Deep Go.Maps Go.ChangeMaps Go.MapKept
variable {H lb pb kb vb xb nw c:Nat} {vS:Value} {K:Kn} {E:Int->Option Nat} {m:Bool} {S:Sl} {F:Fl} {alive:Bool} {vs:Vr} {u w w':World}
def sdV(d:Sd):Value:= .agg #[.int .i64 d.1.1,.int .i64 d.1.2,.int .i64 d.2]
theorem LkE.congr{K':Kn}(h:LkE H lb pb kb vS nw c K E w)(e:∀ p,K' p=K p):LkE H lb pb kb vS nw c K' E w:=by
 obtain rfl:K'=K:=funext e;exact h
theorem LkW.congr{K':Kn}(h:LkW H lb pb kb vS nw c K w)(e:∀ p,K' p=K p):LkW H lb pb kb vS nw c K' w:=by
 obtain rfl:K'=K:=funext e;exact h
theorem LkE.block(h:LkE H lb pb kb vS nw c K E w){p:Int}{b:Nat}(hE:E p=some b):∃ vs,K p=some vs/\H<=b/\dW b vs w/\b≠lb/\b≠kb:=by
 cases hK:K p with
 |none=>rw[h.dead p hK]at hE;cases hE
 |some vs=>
  obtain⟨b',e1,e2,e3⟩:=h.live p vs hK;rw[hE]at e1;cases e1;refine⟨vs,rfl,e2,e3,?_,?_⟩
  ·rintro rfl;obtain⟨cs,hc,_⟩:=e3;exact bEF hc h.blk Ob rfl
  ·rintro rfl;obtain⟨cs,hc,_⟩:=e3;obtain⟨es,cl,hm⟩:=h.map.ismap;rw[hm]at hc;cases hc
theorem LkE.blkNew{vs':Vr}{p:Int}{b:Nat}(h:LkE H lb pb kb vS nw c K E w)(hE:E p=some b)(hw:∀ i,i≠b->w'.heap[i]?=w.heap[i]?)(hv:dW b vs' w'):LkE H lb pb kb vS nw c (bEI K p (some vs')) E w':=by
 obtain⟨vs,hK,hH,hvs,n1,n2⟩:=h.block hE;refine⟨(hw lb n1.symm).trans h.blk,h.map.same (hw kb n2.symm),fun q hq=>?_,fun q vq hq=>?_,h.inj,fun q hq=>?_,h.ge,h.few⟩
 ·unfold bEI at hq
  split at hq
  ·cases hq
  ·exact h.dead q hq
 ·unfold bEI at hq
  split at hq
  ·rename_i e;subst e;cases hq;exact⟨b,hE,hH,hv⟩
  ·rename_i e;obtain⟨b',e1,e2,e3⟩:=h.live q vq hq;have h0:b'≠b:=by rintro rfl;exact e (h.inj q p b' e1 hE)
   exact⟨b',e1,e2,e3.same (hw b' h0)⟩
 ·unfold bEI
  split
  ·rename_i e;subst e;rw[h.far q hq]at hK;cases hK
  ·exact h.far q hq
theorem Fs.varPut{b:Nat}{vs:Vr}(h:dW b vs w)(hH:H<=b)(o1 o2:Nat)(v1 v2:Value):Fs H true w ((w.setCell ⟨b,o1,none⟩ v1).setCell ⟨b,o2,none⟩ v2):=by
 obtain⟨cs,hc,_⟩:=h;exact((Fs.refl H true w).set hc hH (.inr ⟨rfl,.inl rfl⟩) _ _).set (aM _ hc) hH (.inr ⟨rfl,.inl rfl⟩) _ _
theorem pX{b o1 o2:Nat}{v1 v2:Value}:∀ i,i≠b->((w.setCell ⟨b,o1,none⟩ v1).setCell ⟨b,o2,none⟩ v2).heap[i]?=w.heap[i]?:=fun _ hi=>(Om hi).trans (Om hi)
theorem LkE.put{p:Int}{b j:Nat}(h:LkE H lb pb kb vS nw c K E w)(hE:E p=some b)(hK:K p=some vs)(hj:j < 12)(r:Rg):
 LkE H lb pb kb vS nw c (bEI K p (some (oT vs j r))) E ((w.setCell ⟨b,j*2,none⟩ (.int .i64 r.1)).setCell ⟨b,j*2+1,none⟩ (.int .i64 r.2))/\Fs H true w ((w.setCell ⟨b,j*2,none⟩ (.int .i64 r.1)).setCell ⟨b,j*2+1,none⟩ (.int .i64 r.2)):=by
 obtain⟨vs2,h1,hH,h0,_,_⟩:=h.block hE;rw[hK]at h1;cases h1;exact⟨h.blkNew hE pX (h0.put hj r),Fs.varPut h0 hH _ _ _ _⟩
theorem mK{K:Kn}{p:Int}{s:St}(h:K p=s):∀ q,K q=bEI K p s q:=fun q=>by
 unfold bEI
 split
 ·rename_i e;rw[e];exact h
 ·rfl
theorem bES{K:Kn}{p:Int}{s s':St}:∀ q,bEI K p s q=bEI (bEI K p s') p s q:=fun q=>by
 unfold bEI
 split<;>rfl
theorem zX(h:LkW H lb pb kb vS nw c K w)(p:Int)(hp:0<=p/\p<=9223372036854775807)(d:Sd)(hd:d.2= -1\/0<=d.2/\d.2 < 12)(lim:Rg):
 Calls Tryz.prog 205 #[.pointer (some ⟨lb,0,none⟩),.int .i64 p,sdV d,rgV lim] w fun e w'=>e= .returned (.tuple #[])/\LkW H lb pb kb vS nw c (bEI K p (jY (K p) d lim)) w'/\Fs H true w w':=by
 obtain⟨E,h⟩:=h;obtain⟨⟨d1,d2⟩,d3⟩:=d;show Calls _ _ #[_,_,.agg #[.int .i64 d1,.int .i64 d2,.int .i64 d3],.agg #[.int .i64 lim.1,.int .i64 lim.2]] _ _;obtain⟨b1,b2,HB,hz⟩:=aGU w (.cells #[.int .i64 d1,.int .i64 d2,.int .i64 d3] 264) (.cells #[.int .i64 lim.1,.int .i64 lim.2] 259);have hA:=h.fs (Fs.of HB h.size false);have fA:Fs H true w _:=Fs.of HB h.size true;obtain⟨c0,c1,c2,c3,cf⟩:=cO hA.blk;have lk:=(hA.at_ p hp).1;obtain⟨s0,s1,s2,sf⟩:=aG b1;obtain⟨r0,r1,rf⟩:=aH b2;generalize h7:(w.alloc (.cells #[.int .i64 d1,.int .i64 d2,.int .i64 d3] 264)).alloc (.cells #[.int .i64 lim.1,.int .i64 lim.2] 259)=W0 at*;cases hK:K p with
 |none=>
  rw[hK,h.dead p hK]at lk
  change (Instr.lookup 170 (.map (some kb)) (.int .i64 p) true).run Tryz.prog W0= .ok (.tuple #[.pointer none,.bool false]) W0 at lk
  have FIN:Hid (LkW H lb pb kb vS nw c (bEI K p (jY none ((d1,d2),d3) lim)) W0):=⟨E,hA.congr fun q=>(mK (K:=K) (s:=none) hK q).symm⟩;have HF:Hid (Fs H true w W0):=fA;clear hA fA h hK HB;go_enter Tryz.func205,Tryz.ntmps205
  go_upto_region 1 with fail
  clear h7;go_wp2;refine bodyPost_ret (results_none rfl _ _ _) rfl ?_;exact⟨rfl,FIN.out,HF.out⟩
 |some vs=>
  obtain⟨b,hE,hH,hv⟩:=h.live p vs hK;rw[hK,hE]at lk
  change (Instr.lookup 170 (.map (some kb)) (.int .i64 p) true).run Tryz.prog W0= .ok (.tuple #[.pointer (some ⟨b,0,none⟩),.bool true]) W0 at lk
  by_cases hn:d3= -1
  ·subst hn;have FIN:Hid (LkW H lb pb kb vS nw c (bEI K p (jY (some vs) ((d1,d2),-1) lim)) W0):=⟨E,hA.congr fun q=>(mK (K:=K) (s:=some vs) hK q).symm⟩;have HF:Hid (Fs H true w W0):=fA;clear hA fA h hK HB hE hv;go_enter Tryz.func205,Tryz.ntmps205
   go_upto_region 1 with fail
   clear h7;go_wp2;refine bodyPost_ret (results_none rfl _ _ _) rfl ?_;exact⟨rfl,FIN.out,HF.out⟩
  ·obtain⟨j,rfl⟩:∃ j:Nat,d3=j:=⟨d3.toNat,by dsimp only at hd;omega⟩;have hj:j < 12:=by dsimp only at hd;omega
   have hjI:0<=(j:Int)/\(j:Int) < 12:=Oa
   have tn:((j:Int)==-1)=false:=Od
   have hbl:b < w.heap.size:=by obtain⟨cs,hc,_⟩:=hv;exact(Oo hc)
   obtain⟨vsA,k2,hHA,k0,_,_⟩:=hA.block hE;obtain⟨vc,vf⟩:=k0.cells;rw[hK]at k2;cases k2;obtain⟨v0,v1⟩:=vc j hj;have HA:Hid (LkE H lb pb kb vS nw c K E W0):=hA;have HF:Hid (Fs H true w W0):=fA;have HK:Hid (K p=some vs):=hK;have HE:Hid (E p=some b):=hE;have k4:Hid _:=b1;have k6:Hid _:=b2
   have h0:jY (some vs) ((d1,d2),(j:Int)) lim=(if iU (jP (vs j) lim)then none else some (oT vs j (jP (vs j) lim)):St):=by
    unfold jY;dsimp only;rw[Oh,Int.toNat_natCast]
   generalize jY (some vs) ((d1,d2),(j:Int)) lim=X at h0 ⊢;have HX:Hid _:=h0;clear hA fA h hK HB hE hv k0 vc hd hn b1 b2 h0;go_enter Tryz.func205,Tryz.ntmps205
   go_upto_region 1 with fail
   clear h7;go_upto_region 3 with fail
   go_cut []from 11 (fun w'=>LkE H lb pb kb vS nw c (bEI K p (some (oT vs j (jP (vs j) lim)))) E w'/\Fs H true w w'/\w'.heap[w.heap.size]?=some (.cells #[.int .i64 d1,.int .i64 d2,.int .i64 (j:Int)] 264 (0,0)))
   case first=>
    rename_i J K' hJ hK;go_region_with (go_at_call 264;refine(aRX (vs j) lim _).mono ?_;rintro e Wa ⟨rfl,ha⟩;have fa:Fs H false W0.drew Wa:=Fs.of ha HA.out.drew.size false;have la:LkE H lb pb kb vS nw c K E Wa:=HA.out.drew.fs fa;have ba:=fa.keep k4.out Ob (.inl Ob) (.inl Ob);obtain⟨_,_,s2',_⟩:=aG ba;obtain⟨vs',h8,k3,h5,_,_⟩:=la.block HE.out;obtain⟨vc',vf'⟩:=h5.cells;obtain⟨v0',v1'⟩:=vc' j hj;rw[aS])
    all_goals
     obtain⟨P1,P2⟩:=la.put HE.out HK.out hj (jP (vs j) lim)
     (first|refine hK _ _ (Met.intro (hJ _ _ ?_))|refine Met.intro (hJ _ _ ?_)|refine hJ _ _ ?_)
     (repeat apply Exists.intro)
     refine⟨?_,rfl⟩;refine⟨P1,((HF.out.drew).trans (Fs.of ha HA.out.drew.size true)).trans P2,?_⟩;exact(pX _ Oa).trans ba
   case rest=>
   obtain⟨h1,f1,k1⟩:=hcut;clear s0 s1 s2 sf r0 r1 rf c0 c1 c2 c3 cf lk v0 v1 vf HA HF k4 k6;obtain⟨vs',h8,k3,h5,_,_⟩:=h1.block HE.out;rw[bU]at h8;cases h8;obtain⟨vc',vf'⟩:=h5.cells;obtain⟨v0,v1⟩:=vc' j hj;have hu:oT vs j (jP (vs j) lim) j=jP (vs j) lim:=if_pos rfl;rw[hu]at v0 v1;obtain⟨_,_,s2,_⟩:=aG k1;have h6:=h1.size;have HL:Hid (LkE H lb pb kb vS nw c (bEI K p (some (oT vs j (jP (vs j) lim)))) E wc):=h1;have HF:Hid (Fs H true w wc):=f1;have h9:Hid (wc.heap[w.heap.size]?=some (.cells #[.int .i64 d1,.int .i64 d2,.int .i64 (j:Int)] 264 (0,0))):=k1;have k5:Hid (∀ o,wc.frozen? ⟨b,o,none⟩=false):=vf';clear h5 vc' hu h1 f1 k1 k3 vf';generalize hR:jP (vs j) lim=R at*;go_wp2_with fail
   go_region_held3 (fun w'=>w'.cell? ⟨w.heap.size,2,none⟩=some (.int .i64 (j:Int))/\w'.cell? ⟨b,j*2,none⟩=some (.int .i64 R.1)/\w'.cell? ⟨b,j*2+1,none⟩=some (.int .i64 R.2))
    (first
      |(refine⟨?_,?_,?_⟩<;>assumption)
      |go_keep)
    (first
      |(go_at_call 265;refine(aI5 R _).mono ?_;rintro e Wa ⟨rfl,ha⟩;have fa:Fs H false wc.drew Wa:=Fs.of ha h6 false;have la:=HL.out.drew.fs fa;have q0:=(ha.block _ (Oo h9.out)).trans h9.out;obtain⟨_,_,s2',_⟩:=aG q0;obtain⟨vs'',h3,_,h2,_,_⟩:=la.block HE.out;rw[bU]at h3;cases h3;obtain⟨vc'',_⟩:=h2.cells;obtain⟨v0'',v1''⟩:=vc'' j hj;rw[show oT vs j R j=R from if_pos rfl]at v0'' v1''))
   have FW:Hid (LkE H lb pb kb vS nw c (bEI K p (some (oT vs j R))) E Wa):=la;have FF:Hid (Fs H true w Wa):=HF.out.drew.trans (Fs.of ha h6 true);clear ha fa la q0 s2' h2 vc'' v0'' v1'' s2 HF h9 k5 hR v0 v1 HL h6;cases hh:iU R
   ·have HH:Hid (iU R=false):=hh;clear hh;go_wp2;go_end0
    refine⟨rfl,?_,FF.out⟩;rw[HX.out,HH.out];exact⟨E,FW.out⟩
   ·have HH:Hid (iU R=true):=hh;clear hh;go_wp2_with fail
    refine(wG ⟨E,FW.out⟩ p hp).mono ?_;rintro e W2 ⟨rfl,h4,f4⟩;have H4:Hid _:=h4;have F4:Hid (Fs H true w W2):=FF.out.trans f4;clear h4 f4;go_wp2;go_end0
    refine⟨rfl,?_,F4.out⟩;rw[HX.out,HH.out];exact LkW.congr H4.out bES
end
section
open Go.RowKit Go.Lib Go.Deep Go.Maps Go.ChangeMaps Go.MapKept
variable {H lb pb kb vb xb nw c:Nat} {vS:Value} {K:Kn} {E:Int->Option Nat} {m:Bool} {S:Sl} {F:Fl} {alive:Bool} {vs:Vr} {u w w':World}
structure SdW(d:Sd):Prop where
 var:d.2= -1\/0<=d.2/\d.2 < 12
 lo:i64 d.1.1
 hi:i64 d.1.2
theorem jQ(d:Sd):sdV d= .agg #[.int .i64 d.1.1,.int .i64 d.1.2,.int .i64 d.2]:=rfl
theorem pM(w:World)(a b:Sd):∃ W0:World,W0=(w.alloc (.cells #[.int .i64 a.1.1,.int .i64 a.1.2,.int .i64 a.2] 264)).alloc (.cells #[.int .i64 b.1.1,.int .i64 b.1.2,.int .i64 b.2] 264)/\
 W0.heap[w.heap.size]?=some (.cells #[.int .i64 a.1.1,.int .i64 a.1.2,.int .i64 a.2] 264 (0,0))/\W0.heap[w.heap.size+1]?=some (.cells #[.int .i64 b.1.1,.int .i64 b.1.2,.int .i64 b.2] 264 (0,0))/\Below w.heap.size w W0/\W0.heap.size=w.heap.size+2:=by
 obtain⟨b1,b2,HB,hz⟩:=aGU w (.cells #[.int .i64 a.1.1,.int .i64 a.1.2,.int .i64 a.2] 264) (.cells #[.int .i64 b.1.1,.int .i64 b.1.2,.int .i64 b.2] 264);exact⟨_,rfl,b1,b2,HB,hz⟩
theorem bF1(h:LkW H lb pb kb vS nw c K w)(p:Int)(hp:0<=p/\p<=9223372036854775807)(a b:Sd)(ha:SdW a)(hb:SdW b)(far:Int)(hf:0<=far/\far<=1):
 Calls Tryz.prog 204 #[.pointer (some ⟨lb,0,none⟩),.int .i64 p,sdV a,sdV b,.int .i64 far] w fun e w'=>e= .returned (.tuple #[])/\LkW H lb pb kb vS nw c (bEI K p (jK (K p) a b far)) w'/\Fs H true w w':=by
 obtain⟨W0,h3,b1,b2,HB,hz⟩:=pM w a b;have hA:LkW H lb pb kb vS nw c K W0:=h.fs (Fs.of HB h.size false);have fA:Fs H true w W0:=Fs.of HB h.size true;obtain⟨p0,p1,p2,pf⟩:=aG b1;obtain⟨q0,q1,q2,qf⟩:=aG b2;have wb1:(-9223372036854775808:Int)<=b.1.2/\b.1.2<=9223372036854775807:=hb.hi;have wa1:(-9223372036854775808:Int)<=a.1.1/\a.1.1<=9223372036854775807:=ha.lo;rw[jQ a,jQ b];have HA:Hid (LkW H lb pb kb vS nw c K W0):=hA;have HF:Hid (Fs H true w W0):=fA;have h6:Hid _:=b1;have h5:Hid _:=b2;have h0:jK (K p) a b far=if b.1.2 < -9223372036854775808+far\/9223372036854775807 - far < a.1.1 then(none:St)else jY (jY (K p) a (aBW (b.1.2 - far))) b (tF (a.1.1+far)):=rfl
 generalize jK (K p) a b far=X at h0 ⊢;have HX:Hid _:=h0;clear hA fA h b1 b2 h0
 have dead:X=none->Calls Tryz.prog 261 #[.pointer (some ⟨lb,0,none⟩),.int .i64 p] W0 fun e w'=>e= .returned (.tuple #[])/\LkW H lb pb kb vS nw c (bEI K p X) w'/\Fs H true w w':=fun e=>by
  subst e;refine(wG HA.out p hp).mono ?_;rintro e w' ⟨rfl,h4,f4⟩;exact⟨rfl,h4,HF.out.trans f4⟩
 have HD:Hid _:=dead;obtain⟨hf1,hf2⟩:=hf;clear dead
 by_cases h1:b.1.2 < -9223372036854775808+far
 ·have hd:=HD.out (HX.out.trans (if_pos (.inl h1)));clear HX HA HF h6 h5 HD;go_enter Tryz.func204,Tryz.ntmps204
  go_upto_region 1 with fail
  rw[<-h3];clear h3;go_wp2_with fail
  refine hd.mono ?_;rintro e w' ⟨rfl,h4,f4⟩;have H4:Hid _:=h4;have F4:Hid _:=f4;clear h4 f4 hd;go_wp2;refine bodyPost_ret (results_none rfl _ _ _) rfl ?_;exact⟨rfl,H4.out,F4.out⟩
 ·by_cases h2:9223372036854775807 - far < a.1.1
  ·have hd:=HD.out (HX.out.trans (if_pos (.inr h2)));clear HX HA HF h6 h5 HD;go_enter Tryz.func204,Tryz.ntmps204
   go_upto_region 1 with fail
   rw[<-h3];clear h3;go_wp2_with fail
   refine hd.mono ?_;rintro e w' ⟨rfl,h4,f4⟩;have H4:Hid _:=h4;have F4:Hid _:=f4;clear h4 f4 hd;go_wp2;refine bodyPost_ret (results_none rfl _ _ _) rfl ?_;exact⟨rfl,H4.out,F4.out⟩
  ·have hX:Hid (X=jY (jY (K p) a (aBW (b.1.2 - far))) b (tF (a.1.1+far))):=HX.out.trans (if_neg (fun h=>h.elim h1 h2));have g1:-9223372036854775808<=b.1.2 - far:=Oa
   have g2:b.1.2 - far<=9223372036854775807:=Oa
   have g3:-9223372036854775808<=a.1.1+far:=Oa
   have g4:a.1.1+far<=9223372036854775807:=Oa
   have k2:Hid (IntKind.i64.wrap (b.1.2 - far)=b.1.2 - far):=IntWalk.i64_in _ ⟨g1,g2⟩;have k1:Hid (IntKind.i64.wrap (a.1.1+far)=a.1.1+far):=IntWalk.i64_in _ ⟨g3,g4⟩;have k0:Hid (SdW a):=ha;have k4:Hid (SdW b):=hb;clear HX HD ha hb;go_enter Tryz.func204,Tryz.ntmps204
   go_upto_region 1 with fail
   rw[<-h3];clear h3;go_upto_region 3 with fail
   go_region_held3 (fun w'=>w'.cell? ⟨w.heap.size,0,none⟩=some (.int .i64 a.1.1)/\w'.cell? ⟨w.heap.size,1,none⟩=some (.int .i64 a.1.2)/\w'.cell? ⟨w.heap.size,2,none⟩=some (.int .i64 a.2)/\w'.cell? ⟨w.heap.size+1,1,none⟩=some (.int .i64 b.1.2))
    (first
      |(refine⟨?_,?_,?_,?_⟩<;>assumption)
      |go_keep)
    (first
      |(go_at_call 262;rw[k2.out];refine(aUA (b.1.2 - far) _).mono ?_;rintro e Wa ⟨rfl,ha⟩;have fa:Fs H false W0.drew Wa:=Fs.of ha HA.out.size false;have la:LkW H lb pb kb vS nw c K Wa:=HA.out.drew.fs fa;have x1:=fa.keep h6.out Ob Oy Oy;have x2:=fa.keep h5.out Ob Oy Oy;obtain⟨p0',p1',p2',_⟩:=aG x1;obtain⟨_,q1',_,_⟩:=aG x2)
      |(go_at_call 205;refine(zX la p hp a k0.out.var (aBW (b.1.2 - far))).mono ?_;rintro e Wb ⟨rfl,lb',fb⟩;have y1:=fb.keep x1 Ob (.inl Ob) (.inl Ob);have y2:=fb.keep x2 Ob (.inl Ob) (.inl Ob);obtain⟨p0'',p1'',p2'',_⟩:=aG y1;obtain⟨_,q1'',_,_⟩:=aG y2))
   have HL:Hid (LkW H lb pb kb vS nw c (bEI K p (jY (K p) a (aBW (b.1.2 - far)))) Wb):=lb';have k3:Hid (Fs H true w Wb):=(HF.out.drew.trans (Fs.of ha HA.out.size true)).trans fb;have h9:Hid _:=y1;have h8:Hid _:=y2;have h7:H<=Wb.heap.size:=lb'.size;clear lb' fb y1 y2 fa la ha x1 x2 p0 p1 p2 pf q0 q1 q2 qf p0' p1' p2' q1' HA HF h6 h5 k0;obtain⟨p0,_,_,_⟩:=aG h9.out;obtain⟨q0,q1,q2,_⟩:=aG h8.out;clear p0'' p1'' p2'' q1'';go_wp2_with fail
   go_region_held3 (fun w'=>w'.cell? ⟨w.heap.size+1,0,none⟩=some (.int .i64 b.1.1)/\w'.cell? ⟨w.heap.size+1,1,none⟩=some (.int .i64 b.1.2)/\w'.cell? ⟨w.heap.size+1,2,none⟩=some (.int .i64 b.2)/\w'.cell? ⟨w.heap.size,0,none⟩=some (.int .i64 a.1.1))
    (first
      |(refine⟨?_,?_,?_,?_⟩<;>assumption)
      |go_keep)
    (first
      |(go_at_call 263;rw[k1.out];refine(aSY (a.1.1+far) _).mono ?_;rintro e Wc ⟨rfl,ha⟩;have fa:Fs H false Wb.drew Wc:=Fs.of ha h7 false;have la:LkW H lb pb kb vS nw c (bEI K p (jY (K p) a (aBW (b.1.2 - far)))) Wc:=HL.out.drew.fs fa;have x1:=fa.keep h9.out Ob Oy Oy;have x2:=fa.keep h8.out Ob Oy Oy;obtain⟨p0',_,_,_⟩:=aG x1;obtain⟨q0',q1',q2',_⟩:=aG x2)
      |(go_at_call 205;refine(zX la p hp b k4.out.var (tF (a.1.1+far))).mono ?_;rintro e Wd ⟨rfl,lb',fb⟩;have y1:=fb.keep x1 Ob (.inl Ob) (.inl Ob);have y2:=fb.keep x2 Ob (.inl Ob) (.inl Ob);obtain⟨p0'',_,_,_⟩:=aG y1;obtain⟨q0'',q1'',q2'',_⟩:=aG y2))
   have H4:Hid (LkW H lb pb kb vS nw c (bEI K p X) Wd):=by
    rw[hX.out];rw[bU]at lb';exact LkW.congr lb' bES
   have F4:Hid (Fs H true w Wd):=(k3.out.drew.trans (Fs.of ha h7 true)).trans fb;clear lb' fb y1 y2 fa la ha x1 x2;go_wp2;go_end0
   exact⟨rfl,H4.out,F4.out⟩
end
section
open Go.RowKit Go.Lib Go.Deep Go.Maps Go.ChangeMaps Go.MapKept
variable {H lb pb kb vb xb nw c:Nat} {vS:Value} {K:Kn} {E:Int->Option Nat} {m:Bool} {S:Sl} {F:Fl} {alive:Bool} {vs:Vr} {u w w':World}
theorem aAD(h:LkW H lb pb kb vS nw c K w)(p:Int)(hp:0<=p/\p<=9223372036854775807)(a b:Sd)(ha:SdW a)(hb:SdW b):
 Calls Tryz.prog 206 #[.pointer (some ⟨lb,0,none⟩),.int .i64 p,sdV a,sdV b] w fun e w'=>e= .returned (.tuple #[])/\LkW H lb pb kb vS nw c (bEI K p (jA (K p) a b)) w'/\Fs H true w w':=by
 obtain⟨W0,k8,b1,b2,HB,hz⟩:=pM w a b;have hA:LkW H lb pb kb vS nw c K W0:=h.fs (Fs.of HB h.size false);have fA:Fs H true w W0:=Fs.of HB h.size true;obtain⟨p0,p1,p2,pf⟩:=aG b1;obtain⟨q0,q1,q2,qf⟩:=aG b2;rw[jQ a,jQ b];obtain⟨X1,k5⟩:∃ X1:St,X1=if eH b.1 then jY (K p) a (dS a.1 b.1.1)else K p:=⟨_,rfl⟩
 have k4:jA (K p) a b=(if eH a.1 then jY X1 b (dS b.1 a.1.1)else X1):=by rw[k5];rfl
 generalize jA (K p) a b=X at k4 ⊢;have HX:Hid _:=k4;have k9:Hid (X1=if eH b.1 then jY (K p) a (dS a.1 b.1.1)else K p):=k5;have y6:Hid (SdW a):=ha;have y4:Hid (SdW b):=hb;clear h k4 ha hb k5;go_enter Tryz.func206,Tryz.ntmps206
 go_upto_region 1 with fail
 rw[<-k8];clear k8;go_wp2_with fail
 refine(uT b.1 _).mono ?_;rintro e W1 ⟨rfl,g1⟩;have f1:Fs H false W0 W1:=Fs.of g1 hA.size false;have y0:Hid (LkW H lb pb kb vS nw c K W1):=hA.fs f1;have y3:Hid (Fs H true w W1):=fA.trans (Fs.of g1 hA.size true);have k1:=f1.keep b1 Ob Oy Oy;have k2:=f1.keep b2 Ob Oy Oy;have k3:Hid (W1.heap[w.heap.size]?=some (.cells #[.int .i64 a.1.1,.int .i64 a.1.2,.int .i64 a.2] 264 (0,0))):=k1;have k0:Hid (W1.heap[w.heap.size+1]?=some (.cells #[.int .i64 b.1.1,.int .i64 b.1.2,.int .i64 b.2] 264 (0,0))):=k2;have h9:H<=W1.heap.size:=(hA.fs f1).size;clear f1 g1 hA fA b1 b2 p0 p1 p2 pf q0 q1 q2 qf k1 k2;cases hone:eH b.1
 ·have k6:Hid (X1=K p):=k9.out.trans (by rw[hone];rfl)
  have h5:Hid (LkW H lb pb kb vS nw c (bEI K p X1) W1):=by
   rw[k6.out];exact LkW.congr y0.out (fun q=>(mK rfl q).symm)
  clear hone;obtain⟨p0,p1,p2,_⟩:=aG k3.out;obtain⟨q0,q1,q2,_⟩:=aG k0.out;go_wp2_with fail
  refine(uT a.1 _).mono ?_;rintro e W3 ⟨rfl,g3⟩;have f3:Fs H false W1 W3:=Fs.of g3 h9 false;have h4:Hid (LkW H lb pb kb vS nw c (bEI K p X1) W3):=h5.out.fs f3;have h8:Hid (Fs H true w W3):=y3.out.trans (Fs.of g3 h9 true);have k1:=f3.keep k3.out Ob Oy Oy;have k2:=f3.keep k0.out Ob Oy Oy;have h1:Hid (W3.heap[w.heap.size]?=some (.cells #[.int .i64 a.1.1,.int .i64 a.1.2,.int .i64 a.2] 264 (0,0))):=k1;have h0:Hid (W3.heap[w.heap.size+1]?=some (.cells #[.int .i64 b.1.1,.int .i64 b.1.2,.int .i64 b.2] 264 (0,0))):=k2;have h3:H<=W3.heap.size:=(h5.out.fs f3).size;clear f3 g3 p0 p1 p2 q0 q1 q2 k1 k2;cases hone2:eH a.1
  ·have h2:Hid (X=X1):=HX.out.trans (by rw[hone2];rfl);clear hone2;go_wp2;go_end0
   refine⟨rfl,?_,h8.out⟩;rw[h2.out];exact h4.out
  ·have h2:Hid (X=jY X1 b (dS b.1 a.1.1)):=HX.out.trans (by rw[hone2];rfl);clear hone2;obtain⟨p0,p1,p2,_⟩:=aG h1.out;obtain⟨q0,q1,q2,_⟩:=aG h0.out;go_wp2_with fail
   go_region_held3 (fun w'=>w'.cell? ⟨w.heap.size+1,0,none⟩=some (.int .i64 b.1.1)/\w'.cell? ⟨w.heap.size+1,1,none⟩=some (.int .i64 b.1.2)/\w'.cell? ⟨w.heap.size+1,2,none⟩=some (.int .i64 b.2)/\w'.cell? ⟨w.heap.size,0,none⟩=some (.int .i64 a.1.1))
    (first
      |(refine⟨?_,?_,?_,?_⟩<;>assumption)
      |go_keep)
    (first
      |(go_at_call 267;refine(vM b.1 a.1.1 _).mono ?_;rintro e Wc ⟨rfl,ha⟩;have fa:Fs H false W3.drew Wc:=Fs.of ha h3 false;have la:LkW H lb pb kb vS nw c (bEI K p X1) Wc:=h4.out.drew.fs fa;have x1:=fa.keep h1.out Ob Oy Oy;have x2:=fa.keep h0.out Ob Oy Oy;obtain⟨p0',_,_,_⟩:=aG x1;obtain⟨q0',q1',q2',_⟩:=aG x2)
      |(go_at_call 205;refine(zX la p hp b y4.out.var (dS b.1 a.1.1)).mono ?_;rintro e Wd ⟨rfl,lb',fb⟩;have y1:=fb.keep x1 Ob (.inl Ob) (.inl Ob);have y2:=fb.keep x2 Ob (.inl Ob) (.inl Ob);obtain⟨p0'',_,_,_⟩:=aG y1;obtain⟨q0'',q1'',q2'',_⟩:=aG y2))
   have H4:Hid (LkW H lb pb kb vS nw c (bEI K p X) Wd):=by
    rw[h2.out];rw[bU]at lb';exact LkW.congr lb' bES
   have F4:Hid (Fs H true w Wd):=(h8.out.drew.trans (Fs.of ha h3 true)).trans fb;clear lb' fb y1 y2 fa la ha x1 x2;go_wp2;go_end0
   exact⟨rfl,H4.out,F4.out⟩
 ·have k6:Hid (X1=jY (K p) a (dS a.1 b.1.1)):=k9.out.trans (by rw[hone];rfl);clear hone;obtain⟨p0,p1,p2,_⟩:=aG k3.out;obtain⟨q0,q1,q2,_⟩:=aG k0.out;go_wp2_with fail
  go_region_held3 (fun w'=>w'.cell? ⟨w.heap.size,0,none⟩=some (.int .i64 a.1.1)/\w'.cell? ⟨w.heap.size,1,none⟩=some (.int .i64 a.1.2)/\w'.cell? ⟨w.heap.size,2,none⟩=some (.int .i64 a.2)/\w'.cell? ⟨w.heap.size+1,0,none⟩=some (.int .i64 b.1.1))
   (first
     |(refine⟨?_,?_,?_,?_⟩<;>assumption)
     |go_keep)
   (first
     |(go_at_call 267;refine(vM a.1 b.1.1 _).mono ?_;rintro e Wa ⟨rfl,ha⟩;have fa:Fs H false W1.drew Wa:=Fs.of ha h9 false;have la:LkW H lb pb kb vS nw c K Wa:=y0.out.drew.fs fa;have x1:=fa.keep k3.out Ob Oy Oy;have x2:=fa.keep k0.out Ob Oy Oy;obtain⟨p0',p1',p2',_⟩:=aG x1;obtain⟨q0',_,_,_⟩:=aG x2)
     |(go_at_call 205;refine(zX la p hp a y6.out.var (dS a.1 b.1.1)).mono ?_;rintro e Wb ⟨rfl,lb',fb⟩;have y1:=fb.keep x1 Ob (.inl Ob) (.inl Ob);have y2:=fb.keep x2 Ob (.inl Ob) (.inl Ob);obtain⟨p0'',p1'',p2'',_⟩:=aG y1;obtain⟨q0'',_,_,_⟩:=aG y2))
  have h5:Hid (LkW H lb pb kb vS nw c (bEI K p X1) Wb):=by
   rw[k6.out];exact lb'
  have y5:Hid (Fs H true w Wb):=(y3.out.drew.trans (Fs.of ha h9 true)).trans fb;have h7:Hid (Wb.heap[w.heap.size]?=some (.cells #[.int .i64 a.1.1,.int .i64 a.1.2,.int .i64 a.2] 264 (0,0))):=y1;have h6:Hid (Wb.heap[w.heap.size+1]?=some (.cells #[.int .i64 b.1.1,.int .i64 b.1.2,.int .i64 b.2] 264 (0,0))):=y2;have k7:H<=Wb.heap.size:=lb'.size;clear lb' fb y1 y2 fa la ha x1 x2 p0 p1 p2 q0 q1 q2 p0' p1' p2' q0' p0'' p1'' p2'' q0'';obtain⟨p0,p1,p2,_⟩:=aG h7.out;obtain⟨q0,q1,q2,_⟩:=aG h6.out;go_wp2_with fail
  refine(uT a.1 _).mono ?_;rintro e W3 ⟨rfl,g3⟩;have f3:Fs H false Wb W3:=Fs.of g3 k7 false;have h4:Hid (LkW H lb pb kb vS nw c (bEI K p X1) W3):=h5.out.fs f3;have h8:Hid (Fs H true w W3):=y5.out.trans (Fs.of g3 k7 true);have k1:=f3.keep h7.out Ob Oy Oy;have k2:=f3.keep h6.out Ob Oy Oy;have h1:Hid (W3.heap[w.heap.size]?=some (.cells #[.int .i64 a.1.1,.int .i64 a.1.2,.int .i64 a.2] 264 (0,0))):=k1;have h0:Hid (W3.heap[w.heap.size+1]?=some (.cells #[.int .i64 b.1.1,.int .i64 b.1.2,.int .i64 b.2] 264 (0,0))):=k2;have h3:H<=W3.heap.size:=(h5.out.fs f3).size;clear f3 g3 p0 p1 p2 q0 q1 q2 k1 k2;cases hone2:eH a.1
  ·have h2:Hid (X=X1):=HX.out.trans (by rw[hone2];rfl);clear hone2;go_wp2;go_end0
   refine⟨rfl,?_,h8.out⟩;rw[h2.out];exact h4.out
  ·have h2:Hid (X=jY X1 b (dS b.1 a.1.1)):=HX.out.trans (by rw[hone2];rfl);clear hone2;obtain⟨p0,p1,p2,_⟩:=aG h1.out;obtain⟨q0,q1,q2,_⟩:=aG h0.out;go_wp2_with fail
   go_region_held3 (fun w'=>w'.cell? ⟨w.heap.size+1,0,none⟩=some (.int .i64 b.1.1)/\w'.cell? ⟨w.heap.size+1,1,none⟩=some (.int .i64 b.1.2)/\w'.cell? ⟨w.heap.size+1,2,none⟩=some (.int .i64 b.2)/\w'.cell? ⟨w.heap.size,0,none⟩=some (.int .i64 a.1.1))
    (first
      |(refine⟨?_,?_,?_,?_⟩<;>assumption)
      |go_keep)
    (first
      |(go_at_call 267;refine(vM b.1 a.1.1 _).mono ?_;rintro e Wc ⟨rfl,ha⟩;have fa:Fs H false W3.drew Wc:=Fs.of ha h3 false;have la:LkW H lb pb kb vS nw c (bEI K p X1) Wc:=h4.out.drew.fs fa;have x1:=fa.keep h1.out Ob Oy Oy;have x2:=fa.keep h0.out Ob Oy Oy;obtain⟨p0',_,_,_⟩:=aG x1;obtain⟨q0',q1',q2',_⟩:=aG x2)
      |(go_at_call 205;refine(zX la p hp b y4.out.var (dS b.1 a.1.1)).mono ?_;rintro e Wd ⟨rfl,lb',fb⟩;have y1:=fb.keep x1 Ob (.inl Ob) (.inl Ob);have y2:=fb.keep x2 Ob (.inl Ob) (.inl Ob);obtain⟨p0'',_,_,_⟩:=aG y1;obtain⟨q0'',q1'',q2'',_⟩:=aG y2))
   have H4:Hid (LkW H lb pb kb vS nw c (bEI K p X) Wd):=by
    rw[h2.out];rw[bU]at lb';exact LkW.congr lb' bES
   have F4:Hid (Fs H true w Wd):=(h8.out.drew.trans (Fs.of ha h3 true)).trans fb;clear lb' fb y1 y2 fa la ha x1 x2;go_wp2;go_end0
   exact⟨rfl,H4.out,F4.out⟩
end
section
open Go.RowKit Go.Lib Go.Deep Go.Maps Go.ChangeMaps Go.MapKept
variable {H lb pb kb vb xb nw c:Nat} {vS:Value} {K:Kn} {E:Int->Option Nat} {m:Bool} {S:Sl} {F:Fl} {alive:Bool} {vs:Vr} {u w w':World}
theorem aG8(h:LkW H lb pb kb vS nw c K w)(p:Int)(hp:0<=p/\p<=9223372036854775807)(op:Int)(ho:21<=op/\op<=26)(a b:Sd)(ha:SdW a)(hb:SdW b):
 Calls Tryz.prog 135 #[.pointer (some ⟨lb,0,none⟩),.int .i64 p,.int .i64 op,sdV a,sdV b] w fun e w'=>e= .returned (.tuple #[])/\LkW H lb pb kb vS nw c (bEI K p (jW (K p) op a b)) w'/\Fs H true w w':=by
 obtain⟨W0,h0,b1,b2,HB,hz⟩:=pM w a b;have hA:LkW H lb pb kb vS nw c K W0:=h.fs (Fs.of HB h.size false);have fA:Fs H true w W0:=Fs.of HB h.size true;obtain⟨p0,p1,p2,pf⟩:=aG b1;obtain⟨q0,q1,q2,qf⟩:=aG b2;rw[jQ a,jQ b];have HA:Hid (LkW H lb pb kb vS nw c K W0):=hA;have HF:Hid (Fs H true w W0):=fA;have h6:Hid _:=b1;have h3:Hid _:=b2;have h2:Hid (SdW a):=ha;have h1:Hid (SdW b):=hb;clear hA fA h b1 b2 ha hb;have hc:op=21\/op=22\/op=23\/op=24\/op=25\/op=26:=Oa
 clear ho;rcases hc with rfl|rfl|rfl|rfl|rfl|rfl
 ·generalize hX:jW (K p) 21 a b=X;have HX:Hid (X=jY (jY (K p) a b.1) b a.1):=hX.symm;clear hX;go_enter Tryz.func135,Tryz.ntmps135
  go_upto_region 1 with fail
  rw[<-h0];clear h0;go_wp2_with fail
  refine(zX HA.out p hp a h2.out.var b.1).mono ?_;rintro e W2 ⟨rfl,h4,f4⟩;have HL:Hid (LkW H lb pb kb vS nw c (bEI K p (jY (K p) a b.1)) W2):=h4;have F2:Hid (Fs H true w W2):=HF.out.trans f4;have y1:=f4.keep h6.out Ob (.inl Ob) (.inl Ob);have y2:=f4.keep h3.out Ob (.inl Ob) (.inl Ob);clear h4 f4 p0 p1 p2 pf q0 q1 q2 qf;obtain⟨p0,p1,p2,_⟩:=aG y1;obtain⟨q0,q1,q2,_⟩:=aG y2;clear y1 y2;go_wp2_with fail
  refine(zX HL.out p hp b h1.out.var a.1).mono ?_;rintro e W3 ⟨rfl,h5,f5⟩
  have H4:Hid (LkW H lb pb kb vS nw c (bEI K p X) W3):=by
   rw[HX.out];rw[bU]at h5;exact LkW.congr h5 bES
  have F4:Hid (Fs H true w W3):=F2.out.trans f5;clear h5 f5;go_wp2;go_end0
  exact⟨rfl,H4.out,F4.out⟩
 ·generalize hX:jW (K p) 22 a b=X;have HX:Hid (X=jA (K p) a b):=hX.symm;clear hX;go_enter Tryz.func135,Tryz.ntmps135
  go_upto_region 1 with fail
  rw[<-h0];clear h0;go_wp2_with fail
  refine(aAD HA.out p hp a b h2.out h1.out).mono ?_;rw[<-HX.out];rintro e W2 ⟨rfl,h4,f4⟩;have H4:Hid (LkW H lb pb kb vS nw c (bEI K p X) W2):=h4;have F4:Hid (Fs H true w W2):=HF.out.trans f4;clear h4 f4;go_wp2;go_end0
  exact⟨rfl,H4.out,F4.out⟩
 ·generalize hX:jW (K p) 23 a b=X;have HX:Hid (X=jK (K p) a b 1):=hX.symm;clear hX;go_enter Tryz.func135,Tryz.ntmps135
  go_upto_region 1 with fail
  rw[<-h0];clear h0;go_wp2_with fail
  refine(bF1 HA.out p hp a b h2.out h1.out 1 Ob).mono ?_;rw[<-HX.out];rintro e W2 ⟨rfl,h4,f4⟩;have H4:Hid (LkW H lb pb kb vS nw c (bEI K p X) W2):=h4;have F4:Hid (Fs H true w W2):=HF.out.trans f4;clear h4 f4;go_wp2;go_end0
  exact⟨rfl,H4.out,F4.out⟩
 ·generalize hX:jW (K p) 24 a b=X;have HX:Hid (X=jK (K p) a b 0):=hX.symm;clear hX;go_enter Tryz.func135,Tryz.ntmps135
  go_upto_region 1 with fail
  rw[<-h0];clear h0;go_wp2_with fail
  refine(bF1 HA.out p hp a b h2.out h1.out 0 Ob).mono ?_;rw[<-HX.out];rintro e W2 ⟨rfl,h4,f4⟩;have H4:Hid (LkW H lb pb kb vS nw c (bEI K p X) W2):=h4;have F4:Hid (Fs H true w W2):=HF.out.trans f4;clear h4 f4;go_wp2;go_end0
  exact⟨rfl,H4.out,F4.out⟩
 ·generalize hX:jW (K p) 25 a b=X;have HX:Hid (X=jK (K p) b a 1):=hX.symm;clear hX;go_enter Tryz.func135,Tryz.ntmps135
  go_upto_region 1 with fail
  rw[<-h0];clear h0;go_wp2_with fail
  refine(bF1 HA.out p hp b a h1.out h2.out 1 Ob).mono ?_;rw[<-HX.out];rintro e W2 ⟨rfl,h4,f4⟩;have H4:Hid (LkW H lb pb kb vS nw c (bEI K p X) W2):=h4;have F4:Hid (Fs H true w W2):=HF.out.trans f4;clear h4 f4;go_wp2;go_end0
  exact⟨rfl,H4.out,F4.out⟩
 ·generalize hX:jW (K p) 26 a b=X;have HX:Hid (X=jK (K p) b a 0):=hX.symm;clear hX;go_enter Tryz.func135,Tryz.ntmps135
  go_upto_region 1 with fail
  rw[<-h0];clear h0;go_wp2_with fail
  refine(bF1 HA.out p hp b a h1.out h2.out 0 Ob).mono ?_;rw[<-HX.out];rintro e W2 ⟨rfl,h4,f4⟩;have H4:Hid (LkW H lb pb kb vS nw c (bEI K p X) W2):=h4;have F4:Hid (Fs H true w W2):=HF.out.trans f4;clear h4 f4;go_wp2;go_end0
  exact⟨rfl,H4.out,F4.out⟩
end
end Go.Proofs.YtikffmloeifkpaaGreatDoor
