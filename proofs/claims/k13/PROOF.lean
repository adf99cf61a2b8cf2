import PyProof.Rows.All
import Wide.All
import OpenK.AllK
import Wide.FinOn
import HandS.ForMost
import HandS.Wide
import HandS.WideMore
import HandS.IsInst
import HandS.Gcd
import HandS.Style
import HandS.Zip
import HandS.TupAny
import HandS.SortInts
import PyProof.ReprRoads
import HandS.Ends
import HandS.Star
import KE.GoesEnum
import HandS.Walk
import PyProof.Rows.RegStrFacts
import PyProof.CallFns
import KE.KDictKeyed
import KE.KeyNested
import HandS.DictTup
import HandS.Iter
import KE.SortData
import KE.DataCmp
import HandS.TupMul
import HandS.Evl
import KE.KDictCopyH
import PyProof.Rows.SeqRoads
import HandS.Text
import PyProof.Rows.ReprOcc
import PySem.Challenge.RW_slantpanes_k13_sums_differences_and_mult
import HandS.HeadHook2
import HandS.Defaults
set_option Elab.async false
set_option linter.all false
set_option maxRecDepth 100000
set_option maxHeartbeats 8000000
set_option exponentiation.threshold 3000
/-! Periods by their primes: plain mathematics. -/
namespace KM
def PN : List Nat := [2, 3, 5, 7, 11, 13, 17, 19, 23, 29]
theorem PN_nodup : PN.Nodup := by decide
theorem PN_lt : ∀ p ∈ PN, 2 ≤ p ∧ p ≤ 29 := by decide
theorem PN_div0 : ∀ p ∈ PN, ∀ d < 30, d ∣ p → d = 1 ∨ d = p := by decide
theorem PN_div {p d : Nat} (hp : p ∈ PN) (h : d ∣ p) : d = 1 ∨ d = p := by
  have := PN_lt p hp
  have := Nat.le_of_dvd (by omega) h
  exact PN_div0 p hp d (by omega) h
theorem cop_of {p a : Nat} (hp : p ∈ PN) (h : ¬ p ∣ a) : Nat.Coprime p a := by
  rcases PN_div hp (Nat.gcd_dvd_left p a) with e | e
  · exact e
  · exact absurd (e ▸ Nat.gcd_dvd_right p a) h
theorem dvd_mul_of {p a b : Nat} (hp : p ∈ PN) (h : p ∣ a * b) : p ∣ a ∨ p ∣ b := by
  by_cases c : p ∣ a
  · exact .inl c
  · exact .inr ((cop_of hp c).dvd_of_dvd_mul_left h)
theorem dvd_pow_of {p a : Nat} (hp : p ∈ PN) : ∀ {e : Nat}, p ∣ a ^ e → p ∣ a
  | 0, h => by
    have := PN_lt p hp
    have := Nat.le_of_dvd (by omega) (show p ∣ 1 from h)
    omega
  | e + 1, h => by
    rw [Nat.pow_succ] at h
    rcases dvd_mul_of hp h with h | h
    · exact dvd_pow_of hp h
    · exact h
theorem eq_of_dvd {p q : Nat} (hp : p ∈ PN) (hq : q ∈ PN) (h : p ∣ q) : p = q := by
  have := PN_lt p hp
  rcases PN_div hq h with e | e <;> omega

/-- a period by its primes and exponents -/
def mOf : List (Nat × Nat) → Nat
  | [] => 1
  | x :: r => x.1 ^ x.2 * mOf r
structure Pw (pw : List (Nat × Nat)) : Prop where
  sub : (pw.map (·.1)).Sublist PN
  pos : ∀ x ∈ pw, 1 ≤ x.2
theorem Pw.mem {pw : List (Nat × Nat)} (h : Pw pw) {x : Nat × Nat} (hx : x ∈ pw) : x.1 ∈ PN := h.sub.subset (List.mem_map_of_mem hx)
theorem Pw.tail {x : Nat × Nat} {pw : List (Nat × Nat)} (h : Pw (x :: pw)) : Pw pw :=
  ⟨(List.sublist_cons_self x.1 (pw.map fun y => y.1)).trans (show (x.1 :: pw.map fun y => y.1).Sublist PN from h.sub), fun y hy => h.pos y (List.mem_cons_of_mem _ hy)⟩
theorem Pw.nodup {pw : List (Nat × Nat)} (h : Pw pw) : (pw.map (·.1)).Nodup := h.sub.nodup PN_nodup
theorem mOf_pos : ∀ {pw : List (Nat × Nat)}, Pw pw → 1 ≤ mOf pw
  | [], _ => Nat.le_refl 1
  | x :: r, h => by
    have h1 := mOf_pos h.tail
    have h2 := PN_lt _ (h.mem List.mem_cons_self)
    have h3 : 0 < x.1 ^ x.2 := Nat.pow_pos (by omega)
    exact Nat.mul_pos h3 h1
theorem dvd_mOf {p : Nat} (hp : p ∈ PN) : ∀ {pw : List (Nat × Nat)}, Pw pw → (p ∣ mOf pw ↔ p ∈ pw.map (·.1))
  | [], _ => by
    have := PN_lt p hp
    refine ⟨fun h => ?_, fun h => by cases h⟩
    have := Nat.le_of_dvd (by omega) (show p ∣ 1 from h)
    omega
  | x :: r, h => by
    have ih := dvd_mOf hp h.tail
    rw [List.map_cons, List.mem_cons]
    constructor
    · intro d
      rcases dvd_mul_of hp (show p ∣ x.1 ^ x.2 * mOf r from d) with d | d
      · exact .inl (eq_of_dvd hp (h.mem List.mem_cons_self) (dvd_pow_of hp d))
      · exact .inr (ih.mp d)
    · rintro (e | e)
      · subst e
        have := h.pos x List.mem_cons_self
        exact Nat.dvd_trans (Nat.dvd_trans (by rw [show x.1 ^ x.2 = x.1 * x.1 ^ (x.2 - 1) by rw [Nat.mul_comm, ← Nat.pow_succ]; congr 1; omega]; exact Nat.dvd_mul_right _ _) (Nat.dvd_refl _)) (Nat.dvd_mul_right _ _)
      · exact Nat.dvd_trans (ih.mpr e) (Nat.dvd_mul_left _ _)
theorem filter_sub {α : Type} [DecidableEq α] : ∀ {s l : List α}, s.Sublist l → l.Nodup → l.filter (fun x => decide (x ∈ s)) = s
  | _, _, .slnil, _ => rfl
  | s, x :: l, .cons _ h, n => by
    have hx : x ∉ s := fun z => (List.nodup_cons.mp n).1 (h.subset z)
    rw [List.filter_cons_of_neg (by simpa using hx)]
    exact filter_sub h (List.nodup_cons.mp n).2
  | x :: s, _ :: l, .cons₂ _ h, n => by
    rw [List.filter_cons_of_pos (by simp)]
    congr 1
    have n' := (List.nodup_cons.mp n)
    rw [show l.filter (fun y => decide (y ∈ x :: s)) = l.filter (fun y => decide (y ∈ s)) from List.filter_congr fun y hy => by
      have : y ≠ x := fun e => n'.1 (e ▸ hy)
      simp [this]]
    exact filter_sub h n'.2
theorem primes_mOf {pw : List (Nat × Nat)} (h : Pw pw) : PN.filter (fun p => decide (p ∣ mOf pw)) = pw.map (·.1) := by
  rw [← filter_sub h.sub PN_nodup]
  refine List.filter_congr fun p hp => ?_
  simp only [dvd_mOf hp h, filter_sub h.sub PN_nodup]
/-- the power of the first prime -/
theorem part_first {x : Nat × Nat} {r : List (Nat × Nat)} (h : Pw (x :: r)) {k : Nat} (h1 : x.1 ^ k ∣ mOf (x :: r)) (h2 : ¬ x.1 ^ (k + 1) ∣ mOf (x :: r)) : k = x.2 := by
  have hp := h.mem List.mem_cons_self
  have p2 := PN_lt _ hp
  rcases Nat.lt_trichotomy k x.2 with c | c | c
  · exact absurd (Nat.dvd_trans (Nat.pow_dvd_pow x.1 c) (Nat.dvd_mul_right _ _)) h2
  · exact c
  · have d : x.1 ^ (x.2 + 1) ∣ x.1 ^ x.2 * mOf r := Nat.dvd_trans (Nat.pow_dvd_pow x.1 c) h1
    rw [Nat.pow_succ] at d
    have d2 : x.1 ∣ mOf r := Nat.dvd_of_mul_dvd_mul_left (Nat.pow_pos (by omega)) d
    have := (dvd_mOf hp h.tail).mp d2
    exact absurd this (List.nodup_cons.mp h.nodup).1
theorem cop_pow {p g : Nat} (h : Nat.Coprime p g) (e : Nat) : Nat.Coprime (p ^ e) g := Nat.Coprime.pow_left e h
/-- what divides a period and is not 1 is divisible by one of its primes -/
theorem prime_in {g : Nat} : ∀ {pw : List (Nat × Nat)}, Pw pw → g ∣ mOf pw → (∀ x ∈ pw, ¬ x.1 ∣ g) → g = 1
  | [], _, h, _ => Nat.dvd_one.mp h
  | x :: r, hw, h, hn => by
    have c : Nat.Coprime (x.1 ^ x.2) g := cop_pow (cop_of (hw.mem List.mem_cons_self) (hn x List.mem_cons_self)) _
    exact prime_in hw.tail (c.symm.dvd_of_dvd_mul_left h) fun y hy => hn y (List.mem_cons_of_mem _ hy)
/-- the prime powers divide a number exactly if their product does -/
theorem parts_dvd {g : Nat} : ∀ {pw : List (Nat × Nat)}, Pw pw → ((∀ x ∈ pw, x.1 ^ x.2 ∣ g) ↔ mOf pw ∣ g)
  | [], _ => ⟨fun _ => Nat.one_dvd g, fun _ _ h => by cases h⟩
  | x :: r, hw => by
    have ih := parts_dvd (g := g) hw.tail
    have c : Nat.Coprime (x.1 ^ x.2) (mOf r) := by
      refine cop_pow (cop_of (hw.mem List.mem_cons_self) fun d => ?_) _
      exact (List.nodup_cons.mp hw.nodup).1 ((dvd_mOf (hw.mem List.mem_cons_self) hw.tail).mp d)
    constructor
    · intro h
      exact c.mul_dvd_of_dvd_of_dvd (h x List.mem_cons_self) (ih.mp fun y hy => h y (List.mem_cons_of_mem _ hy))
    · intro h y hy
      rcases List.mem_cons.mp hy with rfl | hy
      · exact Nat.dvd_trans (Nat.dvd_mul_right _ _) h
      · exact ih.mpr (Nat.dvd_trans (Nat.dvd_mul_left _ _) h) y hy
theorem part_dvd_mOf {pw : List (Nat × Nat)} (h : Pw pw) {x : Nat × Nat} (hx : x ∈ pw) : x.1 ^ x.2 ∣ mOf pw := (parts_dvd h).mpr (Nat.dvd_refl _) x hx
/-- numbers that no prime of the period divides -/
theorem unit_cop {u : Nat} {pw : List (Nat × Nat)} (h : Pw pw) (hu : ∀ x ∈ pw, ¬ x.1 ∣ u) : Nat.Coprime u (mOf pw) := by
  refine prime_in h (Nat.gcd_dvd_right u (mOf pw)) fun x hx d => ?_
  exact hu x hx (Nat.dvd_trans d (Nat.gcd_dvd_left _ _))
end KM
/-! Calls where nothing is under way of being shown (guards known empty), so that repr of tuples is exact. -/
namespace Kw
open PySem PySem.Spec PyProof.Rows L2

abbrev Quiet (A : Around) : Prop := A.guards = some []

/-- as the layer's promise of a def, asked only where nothing is under way -/
structure GFn (P : Program) (w : World) (K : PySem.W.Frag) (mg : Str → Option Value) (base : Heap)
    (k : Nat) (f : Addr) (fd : FuncData) (ps : List Str) (sp : Sp) : Prop where
  len : ∀ vs H Q E, sp vs H Q E → vs.length = ps.length
  go : ∀ (A : Around), Quiet A → ∀ (outer : List Env) (s : Shared) (H : Hp) (args : Args) (us : List Value)
    (vs : List V) (Q : VK) (E : XK), Room k A → Env0 P w K mg base A outer s H → BindsTo s fd args (ps.zip us) →
    Vals vs us → sp vs H Q E → codeAny (model P w) A (.call (.ref f) args) (CR CX0 outer P w H s Q E) s

section
variable {P : Program} {w : World} {K : PySem.W.Frag} {mg : Str → Option Value} {base : Heap}
  {k j : Nat} {f : Addr} {fd : FuncData} {ps N : List Str} {sp : Sp} {x qual : Str} {st : Stmt}

theorem GFn.mono (F : GFn P w K mg base j f fd ps sp) (h : j ≤ k) : GFn P w K mg base k f fd ps sp :=
  ⟨F.len, fun A g outer s H args us vs Q E hr => F.go A g outer s H args us vs Q E (hr.mono h)⟩
theorem gfn (F : FnOk P w K mg base CX0 k f fd ps sp) : GFn P w K mg base k f fd ps sp :=
  ⟨F.len, fun A _ outer s H args us vs Q E => F.run A outer s H args us vs Q E⟩

/-- the rule for a def of the text -/
theorem gfn_of (F : Fun K x qual st f fd) (S : FnScope N ps (defScope st)) (len : ∀ vs H Q E, sp vs H Q E → vs.length = ps.length)
    (body : ∀ (cdv : Value) (A : Around) (outer : List Env) (s : Shared) (H : Hp) (vs : List V) (Q : VK) (E : XK),
      Quiet (A.deeper (envOfC qual (defScope st) s.heap.objs.size f cdv)) →
      Room k (A.deeper (envOfC qual (defScope st) s.heap.objs.size f cdv)) → sp vs H Q E →
      ∃ t, PSs (cxOf CX0 P w K mg base N qual (defScope st) f cdv A outer s H E).nox (defBody st) t ∧
        t { nx := fun _ H' => Q .non H', rt := Q } (start N vs) H) :
    GFn P w K mg base (k + 1) f fd ps sp := by
  obtain ⟨oc, od, kV, doc, pm, an, cdv, ct, osl, efd, lk, hcd⟩ := F.ex
  subst efd
  constructor
  · exact len
  intro A gA outer s H args us vs Q E room env bind rel want
  have old := fun b o e => (env.bs b o e).1
  have inS : K.In s.heap := env.mod.kin.keeps old
  have noLim : s.heap.NoLimit := env.mod.nolimit.keeps old
  have nL := len _ _ _ _ want
  have kinds : ∀ y ∈ ps.zip us, (defScope st).names.lookup y.1 = some .local ∨
      ((defScope st).names.lookup y.1 = some .cell ∧ ((cellsFrom (s.heap.objs.size + 1) (defScope st).names []).lookup y.1).isSome = true) := by
    intro y hy
    have hm : y.1 ∈ ps := (List.of_mem_zip (a := y.1) (b := y.2) hy).1
    cases S.par y.1 hm with
    | inl q => exact Or.inl q
    | inr q => exact Or.inr ⟨q, PySem.W.cellsFrom_some _ _ _ (Or.inl q)⟩
  apply codeAny_call_function room.depth (inS _ _ lk) rfl S.co S.gen rfl (PySem.W.codeRec_of inS hcd)
  apply bind
  refine wpAny_newFunctionEnv_cells S.kind kinds ?_
  intro env' e' s1 made
  cases e'
  refine ⟨noLim.keeps made.toInCall.keep, codeAny_func ?_⟩
  obtain ⟨t, der, read⟩ := body cdv A outer s H vs Q E gA (room.deeper _) want
  have I0 := inv_start (CX := CX0) (N := N) (E := E) (cd := cdv) (qual := qual) S room.hd env nL rel made
  have ran := der.nox.run [] s1 (start N vs) H _ I0 read
  refine wpAny_mono ran ?_ (fun _ _ z => z)
  intro fl s2 out
  cases fl with
  | brk => obtain ⟨_, _, _, z⟩ := out; exact z.elim
  | cont => obtain ⟨_, _, _, z⟩ := out; exact z.elim
  | next =>
    obtain ⟨_, H2, J, z⟩ := out
    exact ⟨V.non, H2, J.os, J.bare, J.base, J.hok, rfl, z⟩
  | ret u =>
    obtain ⟨v, _, H2, J, rv, z⟩ := out
    exact ⟨v, H2, J.os, J.bare, J.base, J.hok, rv, z⟩
end

section
variable {X : Cx} {k : Nat} {f : Addr} {fd : FuncData} {ps ks : List Str} {sp : Sp} {dvs : List V} {ds : List Value}
  {x : Str} {p pos kpos : Pos} {e : Expr} {es : List Expr} {t tk : TA} {kws : List Keyword}

def Back (X : Cx) (pins : List (Addr × Obj)) (σ : L2.St) (Q : VK) : Result → Shared → Prop
  | .ok (.ret u), s' => EP X pins σ Q u s'
  | _, _ => False
theorem out_of {pins : List (Addr × Obj)} {σ : L2.St} {H : Hp} {s s' : Shared} {Q : VK} {r : Result} (I : Inv X pins σ H s)
    (h : CR CX0 X.stack X.prog X.w H s Q E0 r s') : Back X pins σ Q r s' := by
  match r, h with
  | .ok (.ret u), h => exact I.after h
  | .ok .next, h => exact h
  | .ok .brk, h => exact h
  | .ok .cont, h => exact h
  | .error _, h => exact h

theorem g_run {pins : List (Addr × Obj)} {σ : L2.St} {H : Hp} {s : Shared} {Q : VK} {args : Args} {us : List Value} {vs : List V}
    (G : GFn X.prog X.w X.K X.mg X.base k f fd ps sp) (q : Quiet X.A) (hr : Room k X.A) (I : Inv X pins σ H s)
    (b : BindsTo s fd args (ps.zip us)) (r : Vals vs us) (h : sp vs H Q E0) :
    codeAny (model X.prog X.w) X.A (.call (.ref f) args) (Back X pins σ Q) s :=
  codeAny_mono (G.go X.A q X.stack s H args us vs Q E0 hr I.env0 b r h) fun _ _ z => out_of I z

/-- f(e, ..) -/
theorem pe_callG (G : GFn X.prog X.w X.K X.mg X.base k f fd ps sp) (q : Quiet X.A) (hr : Room k X.A) (hg : Gl X x) (hm : X.mg x = some (.ref f))
    (hk : PySem.W.keepIn X.K (.ref f) = true) (hb : Binds X.K fd ps ds) (hd : Vals dvs ds) (ha : PA X (e :: es) t)
    (hdb : (x == ("__debug__" : Str)) = false := by decide)
    (he : starEach (e :: es) X.env = (false, eval e X.env) :: starEach es X.env := by rfl)
    (hpl : (backTo pos (starEach es X.env)).any (·.1) = false := by rfl) :
    PE X (.Call (.Name x p) (e :: es) [] pos) (tCall sp dvs E0 t) := by
  constructor
  intro pins s σ H Q I want
  refine wpAny_Call_Name_kw (ld_glob I hg hm ?_ hdb)
  refine PySem.W.callWith_K (h₀ := X.base) I.ok.mod.kin hk ?_ he hpl
  refine thn (ha.run pos pins s σ H _ I want) ?_
  rintro us s1 ⟨vs, H1, I1, r, w1⟩
  refine ⟨I1.kIn, ?_⟩
  have r2 := r.append hd
  have n2 : (us ++ ds).length = ps.length := r2.length.symm.trans (G.len _ _ _ _ w1)
  refine wpAny_call (codeAny_mono (g_run G q hr I1 (hb s1 us I1.kIn n2) r2 w1) ?_)
  intro r s2 z
  match r, z with
  | .ok (.ret u), z => exact z

/-- f(e, .., k = v, ..) -/
theorem pe_callKG {g : List Value → List Value → List Value} {gV : List V → List V → List V} (G : GFn X.prog X.w X.K X.mg X.base k f fd ps sp) (q : Quiet X.A) (hr : Room k X.A) (hg : Gl X x)
    (hm : X.mg x = some (.ref f)) (hk : PySem.W.keepIn X.K (.ref f) = true) (hb : KBinds X.K fd ps ks g gV) (ha : PA X (e :: es) t) (hkw : PK X kws tk)
    (hall : (backToKw pos (keywordEach kws X.env)).all (·.1.isSome) = true := by rfl)
    (hks : (backToKw pos (keywordEach kws X.env)).filterMap (·.1) = ks := by rfl)
    (hdb : (x == ("__debug__" : Str)) = false := by decide)
    (he : starEach (e :: es) X.env = (false, eval e X.env) :: starEach es X.env := by rfl)
    (hpl : ((backTo pos (starEach (e :: es) X.env)).any (·.1) || (backToKw pos (keywordEach kws X.env)).any (·.1.isNone)) = false := by rfl) :
    PE X (.Call (.Name x p) (e :: es) kws pos) (tCallK sp gV E0 t tk) := by
  constructor
  intro pins s σ H Q I want
  refine wpAny_Call_Name_kw (ld_glob I hg hm ?_ hdb)
  refine PySem.W.callWith_KW (h₀ := X.base) I.ok.mod.kin hk hall ?_ hpl he
  refine thn (ha.run pos pins s σ H _ I want) ?_
  rintro us s1 ⟨vs, H1, I1, r, w1⟩
  refine thn (hkw.run pos pins s1 σ H1 _ I1 w1) ?_
  rintro ws s2 ⟨zs, H2, I2, rz, w2⟩
  refine ⟨I2.kIn, ?_⟩
  rw [hks]
  have r2 := hb.rel r rz
  have n2 : (g us ws).length = ps.length := r2.length.symm.trans (G.len _ _ _ _ w2)
  refine wpAny_call (codeAny_mono (g_run G q hr I2 (hb.to s2 us ws I2.kIn n2) r2 w2) ?_)
  intro r s3 z
  match r, z with
  | .ok (.ret u), z => exact z

/-- repr of data of lists and tuples -/
def rRepr (K : PySem.W.Frag) : List V → Hp → VK → Prop := fun xs H Q => ∃ (a : Addr) (d : PyData), xs = [.ref a] ∧ Dp K H (.ref a) d ∧
  d.showable = true ∧ d.hasDict = false ∧ d.depth ≤ 40 ∧ d.shown.length ≤ sizeLine ∧ Q (.str d.shown) H
theorem call_reprD (q : Quiet X.A) (hu : X.A.units + 64 < cLine) : CallR X (.builtin "repr") (rRepr X.K) := by
  intro pins s σ H xs us Q I r h
  obtain ⟨a, d, rfl, hd, h1, h2, h3, h4, w1⟩ := h
  obtain ⟨u, rfl, ru⟩ := vals1 r
  obtain rfl : u = Value.ref a := ru
  obtain ⟨as, rd⟩ := Dp.reads I d _ _ hd rfl
  refine repr_of_reads' rd h1 (PyData.noDict_hsm h2) q (by omega) (fun _ _ e => e) ?_ h4
  intro h' u tk keep
  exact ⟨.str d.shown, H, I.kept (t' := tk) keep, ⟨u, rfl⟩, w1⟩
end
end Kw
namespace Kw
open PySem PySem.Spec PyProof.Rows L2

/-- what stands tracked at the law's call: the script alone, or nothing -/
structure Entry (P : Program) (w : World) (K : PySem.W.Frag) (a : Addr) (xs : List V) (h : Heap) (H : Hp) : Prop where
  only : Only H
  seq : SqL K H a xs
  ok : HOk P w H h
  one : ∀ b, H b ≠ none → b = a ∧ K.lookup b = none

theorem entry_made {P : Program} {w : World} {K : PySem.W.Frag} {a : Addr} {vs : List Value} {ns : List Int} {h : Heap} (KX : K.In h)
    (ha : h.get? a = some { cls := .type "list", data := .seq vs.toArray }) (hi : IntsAre vs ns) (hl : ns.length ≤ sizeLine) :
    ∃ H, Entry P w K a (ns.map V.int) h H := by
  have rv : Vals (ns.map V.int) vs := vals_ints hi
  have hl' : (ns.map V.int).length ≤ sizeLine := by simpa using hl
  cases e : K.lookup a with
  | some o =>
    obtain rfl : o = { cls := .type "list", data := .seq vs.toArray } := Option.some.inj ((KX a o e).symm.trans ha)
    refine ⟨fun _ => none, fun _ => .inl rfl, ?_, fun b u z => by simp at z, fun b z => absurd rfl z⟩
    exact .inr ⟨_, vs.toArray, _, e, rfl, rfl, rfl, by rw [List.size_toArray, hi.length]; exact hl, by simpa using rv⟩
  | none =>
    let o : Obj := { cls := .type "list", data := .seq vs.toArray }
    let H : Hp := fun b => if b = a then some (.frz o (.lst (ns.map V.int))) else none
    have at_a : H a = some (.frz o (.lst (ns.map V.int))) := if_pos rfl
    have elsewhere : ∀ b, b ≠ a → H b = none := fun b hb => if_neg hb
    refine ⟨H, ?_, .inl (.inr ⟨o, at_a⟩), ?_, ?_⟩
    · intro b
      rcases Classical.em (b = a) with rfl | hb
      · exact .inr ⟨_, _, at_a⟩
      · exact .inl (elsewhere b hb)
    · intro b u z
      rcases Classical.em (b = a) with rfl | hb
      · rw [at_a] at z
        cases z
        exact ⟨ha, hl', vs, _, rv, ha⟩
      · rw [elsewhere b hb] at z
        cases z
    · intro b z
      rcases Classical.em (b = a) with rfl | hb
      · exact ⟨rfl, e⟩
      · exact absurd (elsewhere b hb) z

theorem law_callG {P : Program} {w : World} {K : PySem.W.Frag} {mg mb : Str → Option Value} {k : Nat} {fa a : Addr} {fd : FuncData} {x : Str} {sp : Sp} {s : Shared} {vs : List Value} {ns : List Int}
    (KX : K.In s.heap) (hns : s.heap.Ns mainGlobals mg) (hb : s.heap.Ns builtinsNs mb) (hbb : ∀ x : Str, x ≠ "__name__" → mb x = bootBuiltins x)
    (hlim : s.heap.NoLimit) (hg : s.gens = #[]) (ha : s.heap.get? a = some { cls := .type "list", data := .seq vs.toArray })
    (hi : IntsAre vs ns) (hl : ns.length ≤ sizeLine) (hr : Room k callerA)
    (F : ∀ base : Heap, K.In base → base.Ns mainGlobals mg → GFn P w K mg base k fa fd [x] sp)
    (bind : ∀ (s : Shared) (u : Value), BindsTo s fd ⟨[u], []⟩ [(x, u)])
    (want : ∀ H : Hp, SqL K H a (ns.map V.int) → sp [.ref a] H (fun v _ => v = .bl true) E0) :
    codeAny (model P w) callerA (.call (.ref fa) ⟨[.ref a], []⟩)
      (fun r s' => r = .ok (.ret (.bool true)) ∧ OldK s.heap s'.heap ∧ s'.os = s.os ∧ AllBare s'.gens) s := by
  obtain ⟨H, T⟩ := entry_made (P := P) (w := w) KX ha hi hl
  -- a dict is never the script, so the dicts of the modules stay in the base
  have noDict : ∀ {b : Addr} {o : Obj} {es : Array DictEntry} {ep : Nat}, s.heap.get? b = some o → o.data = .dict es ep → H b = none := by
    intro b o es ep e d
    cases q : H b with
    | none => rfl
    | some u =>
      obtain ⟨rfl, _⟩ := T.one b (by simp [q])
      rw [ha] at e
      cases e
      cases d
  have ns_base : ∀ {b : Addr} {m : Str → Option Value}, s.heap.Ns b m → (hidT s.heap H).Ns b m := by
    rintro b m ⟨o, es, ep, e, d, r⟩
    exact ⟨o, es, ep, hidT_get e (noDict e d), d, r⟩
  have K_base : K.In (hidT s.heap H) := by
    intro b o e
    refine hidT_get (KX b o e) ?_
    cases q : H b with
    | none => rfl
    | some u =>
      have z := (T.one b (by simp [q])).2
      rw [z] at e
      cases e
  have mod : Mod K mg (hidT s.heap H) := by
    obtain ⟨mc, l1, l2⟩ := hlim
    exact ⟨K_base, ns_base hns, ⟨mb, ns_base hb, hbb⟩, mc, ns_base l1, l2⟩
  have env : Env0 P w K mg (hidT s.heap H) callerA [] s H :=
    { frames := rfl, mod := mod, bs := fun b o e => of_hidT e, bsz := Nat.le_of_eq (hidT_size _ _), funs := trivial,
      frf := fun b z => absurd (show b ∈ ([] : List Addr) from z) (by simp), hok := T.ok, bare := .of_eq hg }
  refine codeAny_mono ((F _ K_base (ns_base hns)).go callerA rfl [] s H ⟨[.ref a], []⟩ [.ref a] [.ref a] _ _ hr env (bind s (.ref a)) (.cons rfl .nil) (want H T.seq)) ?_
  intro r s' z
  match r, z with
  | .ok (.ret u), z =>
    obtain ⟨v, H', os, bare, un, ok', rv, ev⟩ := z
    have ev : v = .bl true := ev
    subst ev
    obtain rfl : u = Value.bool true := rv
    refine ⟨rfl, OldK.of_keep ?_, os, bare⟩
    intro b o e
    cases q : H b with
    | none => exact un.keep b o e q (fun z => absurd (show b ∈ ([] : List Addr) from z) (by simp)) (by simp)
    | some u =>
      rcases T.only b with z | ⟨ob, xs, z⟩
      · rw [q] at z; cases z
      · have e1 := (T.ok b _ z).1
        have e2 := (ok' b _ (un.frzs b ob _ z)).1
        rw [e] at e1
        cases e1
        exact e2

theorem walk_G {l : PySem.W.OpenLaw} {n k : Nat} {q : Program} {loose : List Str} {XP : (Str → Option Value) → Heap → Prop} {YP : World → Heap → Prop} {d : DefRec} {K : Params → PySem.W.Frag} {sp : PySem.W.Frag → Sp} {x : Str}
    (hn : l.most = some n) (hn2 : n ≤ sizeLine) (hdf : d.params.defaults = []) (hr : Room k callerA) (hY : ∀ (w : World) (h : Heap), YP w h → (K w.params).In h)
    (F : ∀ (w : World) (mg : Str → Option Value) (fa : Addr) (h : Heap), (K w.params).In h → h.Ns mainGlobals mg → mg d.name = some (.ref fa) →
      ∃ fd : FuncData, (∀ (s : Shared) (u : Value), BindsTo s fd ⟨[u], []⟩ [(x, u)]) ∧
        ∀ base : Heap, (K w.params).In base → base.Ns mainGlobals mg → GFn l.prog w (K w.params) mg base k fa fd [x] (sp (K w.params)))
    (want : ∀ (K : PySem.W.Frag) (H : Hp) (a : Addr) (ns : List Int), ns.length ≤ n → SqL K H a (ns.map V.int) → sp K [.ref a] H (fun v _ => v = .bl true) E0) :
    PySem.W.WalkO q loose XP YP l.row.toRowW d [] (fun f vs => PySem.call f vs) := by
  apply Att.attach_call hn hdf
  intro w s₀ s₁ mg mb fa o pm cd doc a vs ns G Y ho hd hcd hmg hobj hints hlen hg
  obtain ⟨fd, b, go⟩ := F w mg fa s₁.heap (hY w _ Y) G.T.g hmg
  exact law_callG (hY w _ Y) G.T.g G.T.b G.T.builtins G.T.nolimit hg hobj hints (Nat.le_trans hlen hn2) hr go b (fun H z => want _ H a ns hlen z)
end Kw
namespace Kw
open PySem PySem.Spec PyProof.Rows L2 RZ StX SrtO
section
variable {X : Cx} {k : Nat} {f : Addr} {fd : FuncData} {ps ks : List Str} {sp : Sp} {x : Str} {p pos : Pos} {e : Expr} {es : List Expr} {t tk : TA} {kws : List Keyword}

theorem ip_mulW : PIp X .Mult (rI CMulW fun i j => .int (i * j)) := by
  intro pins s σ H x y v u Q I rx ry h
  obtain ⟨i, j, rfl, rfl, hc, q⟩ := h
  obtain ⟨t, rfl⟩ := rx
  obtain ⟨t', rfl⟩ := ry
  exact imul_int ⟨.int _, H, I.tok _, ⟨_, rfl⟩, q⟩ hc.ok
theorem ip_fdivW : PIp X .FloorDiv (rI CDivW fun i j => .int (i / j)) := fun pins s σ H x y v u Q I rx ry h => iop_fdivW pins s σ H x y v u Q I rx ry h

/-- f(k = v, ..): names alone -/
def tCallN (sp : Sp) (gV : List V → List V → List V) (t : TA) : TE := fun σ H Q => t σ H fun zs H1 => sp (gV [] zs) H1 Q E0
theorem pe_callN {g : List Value → List Value → List Value} {gV : List V → List V → List V} (G : GFn X.prog X.w X.K X.mg X.base k f fd ps sp) (q : Quiet X.A) (hr : Room k X.A) (hg : Gl X x)
    (hm : X.mg x = some (.ref f)) (hk : PySem.W.keepIn X.K (.ref f) = true) (hb : KBinds X.K fd ps ks g gV) (hkw : PK X kws tk)
    (hall : (backToKw pos (keywordEach kws X.env)).all (·.1.isSome) = true := by rfl)
    (hks : (backToKw pos (keywordEach kws X.env)).filterMap (·.1) = ks := by rfl)
    (hdb : (x == ("__debug__" : Str)) = false := by decide)
    (hpl : ((backTo pos (starEach [] X.env)).any (·.1) || (backToKw pos (keywordEach kws X.env)).any (·.1.isNone)) = false := by rfl) :
    PE X (.Call (.Name x p) [] kws pos) (tCallN sp gV tk) := by
  constructor
  intro pins s σ H Q I want
  refine wpAny_Call_Name_kw (ld_glob I hg hm ?_ hdb)
  refine PySem.W.callWith_KW0 (h₀ := X.base) I.ok.mod.kin hk hall ?_ hpl
  refine thn (hkw.run pos pins s σ H _ I want) ?_
  rintro ws s2 ⟨zs, H2, I2, rz, w2⟩
  refine ⟨I2.kIn, ?_⟩
  rw [hks]
  have r2 := hb.rel (vs := []) (us := []) .nil rz
  have n2 : (g [] ws).length = ps.length := r2.length.symm.trans (G.len _ _ _ _ w2)
  refine wpAny_call (codeAny_mono (g_run G q hr I2 (hb.to s2 [] ws I2.kIn n2) r2 w2) ?_)
  intro r s3 z
  match r, z with
  | .ok (.ret u), z => exact z
end

/-! ### heaps: what grows alone -/
theorem same_new {H : Hp} {p : Addr} (h : H p = none) (o : HO) : Same H (upd H p o) := fun b u q => by
  rw [upd_ne (ne_of_none q h)]
  exact q
theorem _root_.L2.Same.sqt {K : PySem.W.Frag} {H H' : Hp} {a : Addr} {xs : List V} (e : Same H H') (h : SqT K H a xs) : SqT K H' a xs := by
  rcases h with (h | ⟨o, h⟩) | h
  · exact .inl (.inl (e _ _ h))
  · exact .inl (.inr ⟨o, e _ _ h⟩)
  · exact .inr h
/-- written after what was there: kept too -/
theorem same_upd2 {H H' : Hp} {p : Addr} {o : HO} (e : Same H H') (h : H p = none) : Same H (upd H' p o) := fun b u q => by
  rw [upd_ne (ne_of_none q h)]
  exact e b u q

/-! ### the forms of comprehensions -/
/-- what a comprehension's list has come to: all else has only grown -/
def Lc (H1 : Hp) (D : Addr) (xs : Nat → List V) (i : Nat) (H : Hp) : Prop := Same H1 H ∧ H D = some (.lst (xs i))
theorem lc_start {H1 : Hp} {D : Addr} {xs : Nat → List V} (nD : H1 D = none) (h0 : xs 0 = []) : Lc H1 D xs 0 (upd H1 D (.lst [])) :=
  ⟨same_new nD _, by rw [upd_same, h0]⟩
theorem lc_leaf {H1 H4 : Hp} {D : Addr} {xs : Nat → List V} {i : Nat} {y : V} (nD : H1 D = none) (s : Same H1 H4) (e : H4 D = some (.lst (xs i)))
    (hl : (xs i).length ≤ 100000) (hy : xs (i + 1) = xs i ++ [y]) :
    ∃ acc, H4 D = some (.lst acc) ∧ acc.length < sizeLine ∧ Lc H1 D xs (i + 1) (upd H4 D (.lst (acc ++ [y]))) :=
  ⟨xs i, e, Nat.lt_of_le_of_lt hl (by decide), same_upd2 s nD, by rw [upd_same, hy]⟩
theorem lc_skip {H1 H3 : Hp} {D : Addr} {xs : Nat → List V} {i : Nat} (s : Same H1 H3) (e : H3 D = some (.lst (xs i))) (hy : xs (i + 1) = xs i) :
    Lc H1 D xs (i + 1) H3 := ⟨s, by rw [hy]; exact e⟩
theorem Lc.next {H1 H H' : Hp} {D : Addr} {xs : Nat → List V} {i : Nat} (h : Lc H1 D xs i H) (s : Same H H') : Lc H1 D xs i H' := ⟨h.1.trans s, s _ _ h.2⟩
/-- over zip of two tuples of one length -/
theorem lc_zipT {K : PySem.W.Frag} {a b : Addr} {xs ys : List V} {g : TG} {tt : TT} {te : TE} {vs : List Nat} {σ : L2.St} {H1 : Hp} {D : Addr} {Qd : Hp → Prop} (hl : xs.length = ys.length) (Pv : Nat → Hp → Prop) (h0 : Pv 0 (upd H1 D (.lst [])))
    (hq : ∀ i H, Pv i H → SqT K H a xs ∧ SqT K H b ys)
    (hs : ∀ (i : Nat) (x y : V) (T : Addr) (H : Hp), xs[i]? = some x → ys[i]? = some y → Pv i H → H T = none → g (.ref T) (wipe σ vs) (upd H T (.tup [x, y])) fun σ2 H2 => wipe σ2 vs = wipe σ vs ∧ tt σ2 H2 fun b H3 =>
      if b = true then te σ2 H3 fun y H4 => ∃ acc, H4 D = some (.lst acc) ∧ acc.length < sizeLine ∧ Pv (i + 1) (upd H4 D (.lst (acc ++ [y]))) else Pv (i + 1) H3)
    (hd : ∀ H, Pv xs.length H → Qd H) :
    ∃ W : Nat → Nat → Hp → Prop, (∃ m, W 0 m (upd H1 D (.lst []))) ∧ ∀ i m H, W i m H →
      ((ItzT K a b).stop i H ∧ Qd H) ∨ ((ItzT K a b).go i H ∧ ∃ Nx : Hp → Prop, (∀ H', Nx H' → ∃ m', m' < m ∧ W (i + 1) m' H') ∧ ∀ x H', (ItzT K a b).yld i H x H' → g x (wipe σ vs) H' fun σ2 H2 => wipe σ2 vs = wipe σ vs ∧ tt σ2 H2 fun b H3 =>
        if b = true then te σ2 H3 fun y H4 => ∃ acc, H4 D = some (.lst acc) ∧ acc.length < sizeLine ∧ Nx (upd H4 D (.lst (acc ++ [y]))) else Nx H3) := by
  refine ⟨fun i m H => m = xs.length - i ∧ i ≤ xs.length ∧ Pv i H, ⟨xs.length, rfl, Nat.zero_le _, h0⟩, ?_⟩
  rintro i m H ⟨em, hi, p⟩
  obtain ⟨qx, qy⟩ := hq i H p
  rcases Nat.lt_or_ge i xs.length with hlt | hge
  · have hx : xs[i]? = some xs[i] := List.getElem?_eq_getElem hlt
    have hy : ys[i]? = some (ys[i]'(hl ▸ hlt)) := List.getElem?_eq_getElem (hl ▸ hlt)
    refine .inr ⟨⟨xs, ys, _, _, qx, qy, hx, hy⟩, Pv (i + 1), fun H' p' => ⟨xs.length - (i + 1), by omega, rfl, hlt, p'⟩, ?_⟩
    rintro v H' ⟨T, x', y', rfl, hT, rfl, f1, f2⟩
    exact hs i x' y' T H (f1 xs qx) (f2 ys qy) p hT
  · obtain rfl : i = xs.length := by omega
    exact .inl ⟨⟨xs, ys, qx, qy, .inl (Nat.le_refl _)⟩, hd H p⟩
end Kw
/-! rules by the written part's name: within comprehensions -/
namespace Kw
open PySem PySem.Spec PyProof.Rows L2 RZ StX SrtO
section
variable {X : Cx} {K : PySem.W.Frag}
theorem cr_sumK (hc : X.calm = true := by rfl) (hK : X.K = K := by rfl) : CallR X (.builtin "sum") (rSum K) := hK ▸ cr_sum hc
theorem cr_allK (hc : X.calm = true := by rfl) (hK : X.K = K := by rfl) : CallR X (.builtin "all") (rAll K) := hK ▸ cr_all hc
theorem cr_anyK (hc : X.calm = true := by rfl) (hK : X.K = K := by rfl) : CallR X (.builtin "any") (rAny K) := hK ▸ cr_any hc
def rLenS (K : PySem.W.Frag) : List V → Hp → VK → Prop := fun xs H Q => ∃ p ys, xs = [.ref p] ∧ (SqL K H p ys ∨ SqT K H p ys) ∧ Q (.int ys.length) H
theorem call_lenK (hK : X.K = K := by rfl) : CallR X (.builtin "len") (rLenS K) := by
  subst hK
  exact call_len_seq
def rTupOf (K : PySem.W.Frag) : List V → Hp → VK → Prop := fun xs H Q => ∃ p ys, xs = [.ref p] ∧ ((SqL K H p ys ∧ ∀ l, H l = none → Q (.ref l) (upd H l (.tup ys))) ∨ (SqT K H p ys ∧ Q (.ref p) H))
theorem call_tupleK (hK : X.K = K := by rfl) : CallR X (.type "tuple") (rTupOf K) := by
  subst hK
  exact call_tuple_of
def rLstOf (K : PySem.W.Frag) : List V → Hp → VK → Prop := fun xs H Q => ∃ p ys, xs = [.ref p] ∧ (SqL K H p ys ∨ SqT K H p ys) ∧ ∀ l, H l = none → Q (.ref l) (upd H l (.lst ys))
theorem call_listK (hK : X.K = K := by rfl) : CallR X (.type "list") (rLstOf K) := by
  subst hK
  exact call_list_of
theorem cr_sortedIK (hK : X.K = K := by rfl) : CallR X (.builtin "sorted") (rSortedI K) := hK ▸ cr_sortedI
theorem pi_tupK {tg l : Expr} {tl : TE} (hl : PE X l tl) (hK : X.K = K := by rfl) : PI X tg l (iTup K tl) := hK ▸ pi_tup hl
theorem pi_listK {tg l : Expr} {tl : TE} (hl : PE X l tl) (hK : X.K = K := by rfl) : PI X tg l (iList K tl) := hK ▸ pi_list hl
theorem sl_listK (hK : X.K = K := by rfl) : SlR X (rSlL K) := hK ▸ sl_list
theorem op_inK (hK : X.K = K := by rfl) : OpR X (compareOp .In) (rIn K false) := hK ▸ op_in_seq
theorem op_notInK (hK : X.K = K := by rfl) : OpR X (compareOp .NotIn) (rIn K true) := hK ▸ op_notIn_seq
theorem call_isiK (hK : X.K = K := by rfl) : CallR X (.builtin "isinstance") (rIsi K) := hK ▸ call_isi
theorem op_eqDK (hu : X.A.units + 64 < cLine) (hK : X.K = K := by rfl) : OpR X (compareOp .Eq) (rEqD K) := hK ▸ op_eqD hu
theorem op_neDK (hu : X.A.units + 64 < cLine) (hK : X.K = K := by rfl) : OpR X (compareOp .NotEq) (rNeD K) := hK ▸ op_neD hu
theorem call_reprDK (q : Quiet X.A) (hu : X.A.units + 64 < cLine) (hK : X.K = K := by rfl) : CallR X (.builtin "repr") (rRepr K) := hK ▸ call_reprD q hu
end
end Kw
/-! enumerate of a tuple -/
namespace Kw
open PySem PySem.Spec PyProof.Rows L2
set_option maxHeartbeats 1000000 in
theorem meets_enum_new {v : Value} {o : Obj} {H : Heap → Prop} (B : Begins v o H) :
    Meets (Builtin.«enumerate.__new__» ⟨[.type "enumerate", v], []⟩) (fun _ R s => H s.heap ∧
      R (.ok (.ret (.ref (s.heap.push o).objs.size))) { s with heap := (s.heap.push o).push { cls := .type "enumerate", data := .fields #[.none, .bool false, .ref s.heap.objs.size, rawInt 0, .none, .none] } }) :=
  .of_wp fun prog w A R s h => by
    obtain ⟨hp, g, d, tk, os⟩ := s
    obtain ⟨h1, h⟩ := h
    have hsub := sub_enumerate
    have q1 : ∀ {A' : Around} {E : Value → Shared → Prop} {Q : Value → Shared → Prop}, Q (.ref hp.objs.size) ⟨hp.push o, g, d, tk, os⟩ → wpAny (model prog w) A' (pyIter v) Q E ⟨hp, g, d, tk, os⟩ :=
      fun q => B.iter prog w _ _ ⟨hp, g, d, tk, os⟩ _ h1 q
    wp_walk using q1
    refine wpAny_stack_any fun st => wpAny_pure ?_
    split
    · rename_i c _ _ _ _ _
      cases (c == Value.type "enumerate")
      · wp_walk using q1
        exact ⟨_, rfl, h⟩
      · wp_walk using q1
        exact ⟨_, rfl, h⟩
    · wp_walk using q1
      exact ⟨_, rfl, h⟩
section
variable {prog : Program} {w : World} {A : Around} {E : Value → Shared → Prop} {s : Shared}
theorem call_enum_new {v : Value} {o : Obj} {H : Heap → Prop} {Q : Value → Shared → Prop} (B : Begins v o H) (h1 : H s.heap)
    (h : ∀ h', IsEnum h' (s.heap.objs.size + 1) s.heap.objs.size 0 .none → h'.get? s.heap.objs.size = some o → h'.objs.size = s.heap.objs.size + 2 →
      (∀ b o, s.heap.get? b = some o → h'.get? b = some o) → Q (.ref (s.heap.objs.size + 1)) { s with heap := h' }) :
    wpAny (model prog w) A (call (.type "enumerate") [v]) Q E s := by
  refine callType_new F.called_enumerate (by decide) (F.typeCall_enumerate_1 _) (F.newCall_enumerate_1 _) (fun obj => F.args_object_init_2 obj _) F.entry_enumerate_new
    (meets_enum_new B) ⟨h1, ?_⟩
  have hz : (s.heap.push o).objs.size = s.heap.objs.size + 1 := Heap.size_push ..
  show _ ∧ _
  rw [hz]
  have he : IsEnum ((s.heap.push o).push { cls := .type "enumerate", data := .fields #[.none, .bool false, .ref s.heap.objs.size, rawInt 0, .none, .none] }) (s.heap.objs.size + 1) s.heap.objs.size 0 .none := by
    have := Heap.get?_push_size (s.heap.push o) (o := { cls := .type "enumerate", data := .fields #[.none, .bool false, .ref s.heap.objs.size, rawInt 0, .none, .none] }) rfl
    rw [hz] at this
    exact this
  refine ⟨⟨_, he, rfl⟩, h _ he (Heap.get?_push_of_some _ (Heap.get?_push_size _ B.free)) (by rw [Heap.size_push, hz]) fun b o x => Heap.get?_push_of_some _ (Heap.get?_push_of_some _ x)⟩
end
/-- the tuple at a, each item in a new pair behind its place -/
def IteT (K : PySem.W.Frag) (a : Addr) : It :=
  ⟨fun i H => ∃ (xs : List V) (x : V), SqT K H a xs ∧ xs[i]? = some x, fun i H v H' => ∃ T x, v = .ref T ∧ H T = none ∧ H' = upd H T (.tup [.int (i : Nat), x]) ∧ ∀ xs, SqT K H a xs → xs[i]? = some x, fun i H => ∃ xs : List V, SqT K H a xs ∧ xs.length ≤ i⟩
theorem turn_enumT {P : Program} {w : World} {K : PySem.W.Frag} {elts : List Expr} {kk : Nat} {tpos : Pos} (a e it : Addr) :
    Turn P w K (.Tuple elts kk tpos) (IteT K a) [e, it] e (fun i h => (∃ old, IsEnum h e it ((i : Nat) : Int) old) ∧ h.IsTupleIter it a i ∧ e ≠ it) where
  mem := by simp
  obj := fun i h st b hb => by
    obtain ⟨⟨old, he⟩, ⟨o, ho, hc, hd⟩, _⟩ := st
    have e' : b = e ∨ b = it := by simpa using hb
    rcases e' with z | z
    · rw [z]; exact ⟨_, he, fun v q => nomatch q⟩
    · rw [z]; exact ⟨o, ho, fun v q => by rw [hd] at q; cases q⟩
  keep := fun i h h' st k => let ⟨⟨old, he⟩, hi, hne⟩ := st; ⟨⟨old, k e (by simp) _ he⟩, hi.at fun o q => k it (by simp) o q, hne⟩
  item := by
    intro X hP hw hK hc i pins s σ H E I hf st hg
    subst hP hw hK
    obtain ⟨⟨old, he⟩, hit, hne⟩ := st
    obtain ⟨xs, x, hq, hx⟩ := hg
    obtain ⟨its, rv, p, hz⟩ := I.tuple hq
    have p : s.heap.IsTuple a its.toArray := p
    obtain ⟨u, hu, ru⟩ := rv.get hx
    have hel : e < s.heap.objs.size := Heap.lt_size he
    have hil : it < s.heap.objs.size := by obtain ⟨_, q, _⟩ := hit; exact Heap.lt_size q
    have hilt : i < its.toArray.size := by
      have := (List.getElem?_eq_some_iff.mp hu).1
      simpa using this
    have nat : a ≠ it := by
      rintro rfl
      obtain ⟨o, ho, hc1, hd1⟩ := hit
      obtain ⟨o', ho', hc2, _⟩ := p
      rw [ho] at ho'
      cases ho'
      rw [hc1] at hc2
      exact absurd hc2 (by decide)
    have nae : e ≠ a := by
      rintro rfl
      obtain ⟨o', ho', hc2, _⟩ := p
      have he' : s.heap.get? e = some _ := he
      rw [he'] at ho'
      cases ho'
      exact absurd (show Value.type "enumerate" = Value.type "tuple" from hc2) (by decide)
    have hd := I.ok.hd hc
    have D := Draws.tuple (prog := X.prog) (w := X.w) (A := X.A.in1) (show X.A.in1.handled = none from hd) it a nat its.toArray
    refine wpAny_pyNext_enum_itemD D he ⟨hit, p⟩ hilt hne (by simp [hne, nae]) fun y h' tk hP ho hst hT hsz hk => ?_
    have hit' := hst.1
    have ey : y = u := by
      have h1 : its.toArray[i]? = some u := by simpa using hu
      rw [h1] at hP
      exact (Option.some.inj hP).symm
    subst ey
    refine ⟨_, rfl, wpAny_letOwnedTupleGo_enum (s := { s with heap := h', toks := tk + 1 }) ho fun h'' he' sb => ?_⟩
    have hT2 : h''.get? s.heap.objs.size = some { cls := .type "tuple", data := .seq #[.int i tk, y] } := (sb.2 _ (Nat.ne_of_gt hel)).trans hT
    have new : ObjOk X.prog X.w (upd H s.heap.objs.size (.tup [.int (i : Nat), x])) h'' s.heap.objs.size (.tup [.int (i : Nat), x]) :=
      ⟨by show 2 ≤ sizeLine; decide, [.int i tk, y], .cons ⟨_, rfl⟩ (.cons ru .nil), ⟨_, hT2, rfl, _, rfl⟩⟩
    have I1 : Inv X pins σ (upd H s.heap.objs.size (.tup [.int (i : Nat), x])) { s with heap := h'', toks := tk + 1 } :=
      I.turnedNew (ch := [e, it]) (fun b ob hb q => (sb.2 b (fun z => hb (by simp [z]))).trans (hk b ob (fun z => hb (by simp [z])) (fun z => hb (by simp [z])) q)) hf (Nat.le_refl _) new
    refine ⟨.ref s.heap.objs.size, _, I1, rfl, ⟨_, x, rfl, I.hok.fresh (Nat.le_refl _), rfl, fun ys hy => by rw [I.tuple_inj hy hq]; exact hx⟩, ⟨⟨y, ?_⟩, hit'.at fun o q => (sb.2 it (Ne.symm hne)).trans q, hne⟩, fun b hb => ?_⟩
    · have e1 : ((i + 1 : Nat) : Int) = (i : Int) + 1 := by omega
      rw [e1]; exact he'
    · have hb' : b < s.heap.objs.size := by
        have e' : b = e ∨ b = it := by simpa using hb
        rcases e' with z | z
        · rw [z]; exact hel
        · rw [z]; exact hil
      rw [upd_ne (Nat.ne_of_lt hb')]
      exact (hf b hb).1
  done := by
    intro X hP hw hK hc i pins s σ H E I hf st hg
    subst hP hw hK
    obtain ⟨⟨old, he⟩, hit, hne⟩ := st
    obtain ⟨xs, hq, hx⟩ := hg
    obtain ⟨its, rv, p, hz⟩ := I.tuple hq
    have p : s.heap.IsTuple a its.toArray := p
    obtain ⟨f0, f1, f2, f3, f4, f5⟩ := hf it (by simp)
    have hl := rv.length
    have hd := I.ok.hd hc
    have hT : s.TypeIs (.ref e) "enumerate" := ⟨_, he, rfl⟩
    unfold pyNext
    refine wpAny_bind (wpAny_attempt (wpAny_callSpecial?_slot (name := Str.ofString "__next__") hT F.slot_enumerate_next
      (wpAny_call_entry F.slot_enumerate_next hT F.entry_enumerate_next ?_ (F.args_enumerate_next_1 _))))
    show wpAny _ _ (field (.ref e) 2 >>= _) _ _ _
    refine wpAny_bind (wpAny_field he rfl (x := .ref it) rfl ?_)
    refine wpAny_bind (wpAny_nextOf_tuple_end (A := X.A.in1) (show X.A.in1.handled = none from hd) hit p (by simp; omega) fun h' x he' hx' => ?_)
    obtain ⟨o, ho, hc⟩ := hx'
    refine wpAny_bind (wpAny_isInstance (T := "StopIteration") (b := true) ⟨o, ho, hc⟩ isSubtype_stop ?_)
    exact wpAny_pure ⟨rfl, I.turned (t' := s.toks) (fun b o hb q => he' b o hb q) f0 f1 f3 f4 f5⟩
  self := fun A i s Q E st h => let ⟨⟨_, he⟩, _⟩ := st; wpAny_pyIter_enum he h
def iEnumT (K : PySem.W.Frag) (ta : TA) : TI := fun σ H R => ta σ H fun vs H1 => ∃ a xs, vs = [.ref a] ∧ SqT K H1 a xs ∧ R (IteT K a) H1
theorem pi_enumT {X : Cx} {e : Expr} {ta : TA} {p pos tpos : Pos} {elts : List Expr} {kk : Nat} (hg : Gl X "enumerate") (hm : X.mg "enumerate" = none) (ha : PA X [e] ta) (hs : starEach [e] X.env = [(false, eval e X.env)] := by rfl) :
    PI X (.Tuple elts kk tpos) (.Call (.Name "enumerate" p) [e] [] pos) (iEnumT X.K ta) := by
  refine ⟨fun pins s σ H R I h => ?_⟩
  refine Call_ (ld_blt I hg hm boot_enumerate (PyProof.Rows.callWith_type1 (thn (ha.run pos pins s σ H _ I h) fun us s1 ⟨vs, H1, I1, r1, q1⟩ => ?_) hs rfl))
  obtain ⟨a, xs, ex, hq, q⟩ := q1
  subst ex
  cases r1 with
  | cons r rr =>
    cases rr
    cases r
    obtain ⟨its, rv, p', hz⟩ := I1.tuple hq
    refine call_enum_new (begins_tuple a its.toArray) p' fun h' he hit hsz hk => wpAny_pyIter_enum he ?_
    have I2 : Inv X pins σ H1 { s1 with heap := h' } := I1.kept (t' := s1.toks) hk
    refine ⟨s1.heap.objs.size + 1, [s1.heap.objs.size + 1, s1.heap.objs.size], _, _, H1, rfl, I2, turn_enumT a (s1.heap.objs.size + 1) s1.heap.objs.size, ⟨⟨.none, he⟩, ⟨_, hit, rfl, rfl⟩, Nat.succ_ne_self _⟩, fun b hb => ?_, q⟩
    have e' : b = s1.heap.objs.size + 1 ∨ b = s1.heap.objs.size := by simpa using hb
    have hle : s1.heap.objs.size ≤ b := by
      rcases e' with z | z
      · rw [z]; exact Nat.le_add_right _ _
      · rw [z]; exact Nat.le_refl _
    exact I1.fpOk hle (I1.hok.fresh hle)
theorem walk_enumT {K : PySem.W.Frag} {a : Addr} {xs : List V} : Walk (IteT K a) xs.length (fun H => SqT K H a xs) (YPair (fun i => some (.int (i : Nat))) (fun i => xs[i]?)) := by
  refine ⟨fun i H hi h => ⟨xs, xs[i], h, List.getElem?_eq_getElem hi⟩, fun H h => ⟨xs, h, Nat.le_refl _⟩, ?_⟩
  rintro i H v H' hi h ⟨T, x, rfl, hT, rfl, f⟩
  exact ⟨T, _, x, rfl, hT, rfl, rfl, f xs h⟩
end Kw
/-! texts of data, data compared -/
namespace Kw
open PySem PySem.Spec PyProof.Rows L2
/-- data whose text is told: n signs at most, k deep -/
structure Rp (n k : Nat) (d : PyData) : Prop where
  sh : d.showable = true
  nd : d.hasDict = false
  dp : d.depth ≤ k
  ln : d.shown.length ≤ n
  cl : d.canLay0 = true
theorem Rp.mono {n k n' k' : Nat} {d : PyData} (h : Rp n k d) (h1 : n ≤ n') (h2 : k ≤ k') : Rp n' k' d := ⟨h.sh, h.nd, Nat.le_trans h.dp h2, Nat.le_trans h.ln h1, h.cl⟩
theorem log2_lt {i : Int} (h : i.natAbs < 2 ^ 1900) : i.natAbs.log2 < 1920 := by
  by_cases e : i.natAbs = 0
  · rw [e]
    decide
  · exact Nat.lt_trans ((Nat.log2_lt e).mpr h) (by decide)
theorem Rp.int {i : Int} (h : i.natAbs < 2 ^ 1900) : Rp 1921 0 (.int i) := by
  have hl := log2_lt h
  refine ⟨by simp [PyData.showable, hl], by simp [PyData.hasDict], by simp [PyData.depth], ?_, by simp [PyData.canLay0]⟩
  simp only [PyData.shown]
  exact int_text_len_1921 hl
theorem Rp.bl (b : Bool) : Rp 5 0 (.bool b) := by
  cases b <;> refine ⟨rfl, rfl, Nat.le_refl _, by decide, rfl⟩
theorem Rp.non : Rp 5 0 .none := ⟨rfl, rfl, Nat.le_refl _, by decide, rfl⟩
theorem rp_showAll {n k : Nat} : ∀ {ds : List PyData}, (∀ d ∈ ds, Rp n k d) → PyData.showableAll ds = true ∧ PyData.hasDictAll ds = false ∧ PyData.depthAll ds ≤ k ∧ PyData.canLayAll0 ds = true ∧ piled (PyData.shownAll ds) ≤ ds.length * (n + 2) ∧ (PyData.shownAll ds).length = ds.length
  | [], _ => by simp [PyData.showableAll, PyData.hasDictAll, PyData.depthAll, PyData.canLayAll0, PyData.shownAll, piled]
  | d :: ds, h => by
    obtain ⟨h1, h2, h3, h4, h5, h6⟩ := rp_showAll fun x hx => h x (List.mem_cons_of_mem d hx)
    have r := h d List.mem_cons_self
    refine ⟨by simp [PyData.showableAll, h1, r.sh], by simp [PyData.hasDictAll, h2, r.nd], ?_, by simp [PyData.canLayAll0, h4, r.cl], ?_, by simp [PyData.shownAll, h6]⟩
    · simp only [PyData.depthAll]
      exact Nat.max_le.mpr ⟨r.dp, h3⟩
    · simp only [PyData.shownAll]
      rw [piled_cons, List.length_cons, Nat.add_mul, Nat.one_mul]
      have := r.ln
      omega
theorem tuple_len (ts : List Str) : (tupleText ts).length ≤ 3 + piled ts := by
  unfold tupleText
  rw [strLen_append, strLen_append]
  have e1 : ((("(" : String) : Str)).length = 1 := rfl
  have e3 : ((if ts.length == 1 then ",)" else ")" : String) : Str).length ≤ 2 := by
    split <;> decide
  by_cases c : ts = []
  · subst c
    decide
  · have := join_length_add ts c
    omega
theorem list_len : ∀ (ts : List Str), (listText ts).length ≤ 3 + piled ts := by
  have go : ∀ (ts : List Str) (k : Nat) (acc : Str), (textFrom k acc ts).length ≤ acc.length + piled ts := by
    intro ts
    induction ts with
    | nil =>
      intro k acc
      exact Nat.le_refl _
    | cons t r ih =>
      intro k acc
      have := ih (k + 1) (acc ++ (if k > 0 then ", " else "" : String) ++ t)
      rw [strLen_append, strLen_append] at this
      have e : ((if k > 0 then ", " else "" : String) : Str).length ≤ 2 := by split <;> decide
      show (textFrom (k + 1) (acc ++ (if k > 0 then ", " else "" : String) ++ t) r).length ≤ _
      rw [piled_cons]
      omega
  intro ts
  have h := go ts 0 "["
  show (textFrom 0 "[" ts ++ "]").length ≤ _
  rw [strLen_append]
  have e1 : ((("[" : String) : Str)).length = 1 := rfl
  have e2 : ((("]" : String) : Str)).length = 1 := rfl
  omega
theorem Rp.tup {n k m : Nat} {ds : List PyData} (h : ∀ d ∈ ds, Rp n k d) (hm : 3 + ds.length * (n + 2) ≤ m) : Rp m (k + 1) (.tuple ds) := by
  obtain ⟨h1, h2, h3, h4, h5, _⟩ := rp_showAll h
  refine ⟨by simp [PyData.showable, h1], by simp [PyData.hasDict, h2], ?_, ?_, by simp [PyData.canLay0, h4]⟩
  · simp only [PyData.depth]
    omega
  · simp only [PyData.shown]
    exact Nat.le_trans (tuple_len _) (by omega)
theorem Rp.lst {n k m : Nat} {ds : List PyData} (h : ∀ d ∈ ds, Rp n k d) (hm : 3 + ds.length * (n + 2) ≤ m) : Rp m (k + 1) (.list ds) := by
  obtain ⟨h1, h2, h3, h4, h5, _⟩ := rp_showAll h
  refine ⟨by simp [PyData.showable, h1], by simp [PyData.hasDict, h2], ?_, ?_, by simp [PyData.canLay0, h4]⟩
  · simp only [PyData.depth]
    omega
  · simp only [PyData.shown]
    exact Nat.le_trans (list_len _) (by omega)
theorem Rp.shaped {n k : Nat} {d : PyData} (h : Rp n k d) (hk : k ≤ 64) : SeqAt.shaped d = true := by
  unfold SeqAt.shaped
  rw [h.cl, decide_eq_true (Nat.le_trans h.dp hk)]
  rfl
theorem Rp.all {K : PySem.W.Frag} {H : Hp} {Q : VK} {n k : Nat} {a : Addr} {d : PyData} (h : Rp n k d) (hd : Dp K H (.ref a) d) (hn : n ≤ sizeLine) (hk : k ≤ 40) (q : Q (.str d.shown) H) : rRepr K [.ref a] H Q :=
  ⟨a, d, rfl, hd, h.sh, h.nd, Nat.le_trans h.dp hk, Nat.le_trans h.ln hn, q⟩
theorem dpAll_ints {K : PySem.W.Frag} {H : Hp} : ∀ cs : List Int, DpAll K H (cs.map V.int) (cs.map PyData.int)
  | [] => .nil
  | c :: r => .cons (.int c) (dpAll_ints r)
theorem eqvAll_ints : ∀ a b : List Int, PyData.eqvAll (a.map PyData.int) (b.map PyData.int) = decide (a = b)
  | [], [] => rfl
  | [], _ :: _ => rfl
  | _ :: _, [] => rfl
  | x :: a, y :: b => by
    simp only [List.map_cons, PyData.eqvAll, PyData.eqv, eqvAll_ints a b]
    by_cases e1 : x = y <;> by_cases e2 : a = b <;> simp [e1, e2]
mutual
/-- only Nones, ints, lists and tuples: no two unlike ones are equal -/
def NoBool : PyData → Bool
  | .none => true
  | .int _ => true
  | .tuple xs => NoBoolAll xs
  | .list xs => NoBoolAll xs
  | _ => false
def NoBoolAll : List PyData → Bool
  | [] => true
  | x :: xs => NoBool x && NoBoolAll xs
end
mutual
theorem eqv_iff : ∀ d e : PyData, NoBool d = true → (PyData.eqv d e = true ↔ (d = e ∨ (NoBool e = false ∧ PyData.eqv d e = true)))
  | .none, e, _ => by cases e <;> simp [PyData.eqv, NoBool]
  | .int i, e, _ => by cases e <;> simp [PyData.eqv, NoBool]
  | .tuple xs, e, h => by
    have h : NoBoolAll xs = true := by simpa [NoBool] using h
    cases e with
    | tuple ys =>
      have := eqvAll_iff xs ys h
      simp only [PyData.eqv, PyData.tuple.injEq, NoBool]
      exact this
    | _ => simp [PyData.eqv]
  | .list xs, e, h => by
    have h : NoBoolAll xs = true := by simpa [NoBool] using h
    cases e with
    | list ys =>
      have := eqvAll_iff xs ys h
      simp only [PyData.eqv, PyData.list.injEq, NoBool]
      exact this
    | _ => simp [PyData.eqv]
  | .bool _, _, h => by simp [NoBool] at h
  | .str _, _, h => by simp [NoBool] at h
  | .dict _, _, h => by simp [NoBool] at h
theorem eqvAll_iff : ∀ xs ys : List PyData, NoBoolAll xs = true → (PyData.eqvAll xs ys = true ↔ (xs = ys ∨ (NoBoolAll ys = false ∧ PyData.eqvAll xs ys = true)))
  | [], [], _ => by simp [PyData.eqvAll]
  | [], _ :: _, _ => by simp [PyData.eqvAll]
  | _ :: _, [], _ => by simp [PyData.eqvAll]
  | x :: xs, y :: ys, h => by
    have h : NoBool x = true ∧ NoBoolAll xs = true := by simpa [NoBoolAll] using h
    have i1 := eqv_iff x y h.1
    have i2 := eqvAll_iff xs ys h.2
    simp only [PyData.eqvAll, NoBoolAll, Bool.and_eq_true, List.cons.injEq, Bool.and_eq_false_iff]
    constructor
    · rintro ⟨a, b⟩
      rcases i1.mp a with e1 | e1
      · rcases i2.mp b with e2 | e2
        · exact .inl ⟨e1, e2⟩
        · exact .inr ⟨.inr e2.1, a, b⟩
      · exact .inr ⟨.inl e1.1, a, b⟩
    · rintro (⟨e1, e2⟩ | ⟨_, h⟩)
      · exact ⟨i1.mpr (.inl e1), i2.mpr (.inl e2)⟩
      · exact h
end
theorem eqv_eq {d e : PyData} (h : NoBool d = true) (h' : NoBool e = true) : PyData.eqv d e = true ↔ d = e := by
  have := eqv_iff d e h
  rw [h'] at this
  simpa using this
theorem noBool_ints : ∀ cs : List Int, NoBoolAll (cs.map PyData.int) = true
  | [] => rfl
  | c :: r => by
    simp only [List.map_cons, NoBoolAll, NoBool, noBool_ints r, Bool.and_self]
/-- a stripe as data -/
def strD (m : Nat) (cs : List Int) (r : Int) : PyData := .tuple [.int m, .tuple (cs.map PyData.int), .int r]
theorem strD_noBool (m : Nat) (cs : List Int) (r : Int) : NoBool (strD m cs r) = true := by
  simp [strD, NoBool, NoBoolAll, noBool_ints]
theorem strD_inj {m n : Nat} {cs ds : List Int} {r s : Int} : strD m cs r = strD n ds s ↔ m = n ∧ cs = ds ∧ r = s := by
  have inj : ∀ a b : List Int, a.map PyData.int = b.map PyData.int ↔ a = b := fun a b => ⟨fun h => (List.map_inj_right (fun _ _ e => PyData.int.inj e)).mp h, fun h => by rw [h]⟩
  simp only [strD, PyData.tuple.injEq, List.cons.injEq, PyData.int.injEq, inj]
  constructor
  · rintro ⟨h1, h2, h3, _⟩
    exact ⟨Int.ofNat.inj h1, h2, h3⟩
  · rintro ⟨rfl, rfl, rfl⟩
    exact ⟨rfl, rfl, rfl, trivial⟩
theorem rp_ints {cs : List Int} (hl : cs.length ≤ 4) (hb : ∀ c ∈ cs, c.natAbs < 2 ^ 1900) : Rp 7700 1 (.tuple (cs.map PyData.int)) := by
  refine Rp.tup (n := 1921) (k := 0) (fun d hd => ?_) ?_
  · obtain ⟨c, hc, rfl⟩ := List.mem_map.mp hd
    exact Rp.int (hb c hc)
  · rw [List.length_map]
    omega
theorem rp_str {m : Nat} {cs : List Int} {r : Int} (hl : cs.length ≤ 4) (hm : m < 2 ^ 1900) (hb : ∀ c ∈ cs, c.natAbs < 2 ^ 1900) (hr : r.natAbs < 2 ^ 1900) : Rp 24000 2 (strD m cs r) := by
  unfold strD
  refine Rp.tup (n := 7700) (k := 1) (fun d hd => ?_) (by show 3 + 3 * 7702 ≤ 24000; decide)
  simp only [List.mem_cons, List.not_mem_nil, or_false] at hd
  rcases hd with rfl | rfl | rfl
  · exact (Rp.int (by omega)).mono (by decide) (by decide)
  · exact rp_ints hl hb
  · exact (Rp.int hr).mono (by decide) (by decide)
end Kw
/-! repr of any data, leaves too -/
namespace Kw
open PySem PySem.Spec PyProof.Rows L2 RZ StX SrtO
def rReprA (K : PySem.W.Frag) : List V → Hp → VK → Prop := fun xs H Q => ∃ (x : V) (d : PyData), xs = [x] ∧ Dp K H x d ∧
  d.showable = true ∧ d.hasDict = false ∧ d.depth ≤ 40 ∧ d.shown.length ≤ sizeLine ∧ Q (.str d.shown) H
section
variable {X : Cx} {K : PySem.W.Frag}
theorem call_reprA0 (q : Quiet X.A) (hu : X.A.units + 64 < cLine) : CallR X (.builtin "repr") (rReprA X.K) := by
  intro pins s σ H xs us Q I r h
  obtain ⟨x, d, rfl, hd, h1, h2, h3, h4, w1⟩ := h
  obtain ⟨u, rfl, ru⟩ := vals1 r
  cases hd with
  | non =>
    obtain rfl : u = .none := by cases ru; rfl
    exact PySem.P.repr_of_none ⟨.str _, H, I.tok _, ⟨_, rfl⟩, w1⟩
  | bl b =>
    obtain rfl : u = .bool b := by cases ru; rfl
    refine PySem.P.repr_of_bool ⟨.str (PyData.bool b).shown, H, I.tok _, ⟨s.toks, ?_⟩, w1⟩
    cases b <;> rfl
  | int i =>
    obtain ⟨t, rfl⟩ := ru
    exact PySem.P.repr_of_int (by simpa [PyData.showable] using h1) ⟨.str _, H, I.tok _, ⟨_, rfl⟩, w1⟩
  | str y =>
    obtain ⟨t, rfl⟩ := ru
    exact PySem.P.repr_of_str ⟨.str _, H, I.tok _, ⟨_, rfl⟩, w1⟩ h4
  | lst h5 h6 =>
    exact call_reprD q hu pins s σ H _ _ Q I r ⟨_, _, rfl, .lst h5 h6, h1, h2, h3, h4, w1⟩
  | tup h5 h6 =>
    exact call_reprD q hu pins s σ H _ _ Q I r ⟨_, _, rfl, .tup h5 h6, h1, h2, h3, h4, w1⟩
theorem call_reprA (q : Quiet X.A) (hu : X.A.units + 64 < cLine) (hK : X.K = K := by rfl) : CallR X (.builtin "repr") (rReprA K) := hK ▸ call_reprA0 q hu
end
theorem Rp.any {K : PySem.W.Frag} {H : Hp} {Q : VK} {n k : Nat} {x : V} {d : PyData} (h : Rp n k d) (hd : Dp K H x d) (hn : n ≤ sizeLine) (hk : k ≤ 40) (q : Q (.str d.shown) H) : rReprA K [x] H Q :=
  ⟨x, d, rfl, hd, h.sh, h.nd, Nat.le_trans h.dp hk, Nat.le_trans h.ln hn, q⟩
end Kw
/-! dicts whose keys are nested tuples -/
namespace Kw
open PySem PySem.Spec PyProof.Rows L2 RZ StX SrtO
abbrev NK := PySem.NestedKey
/-- entries: the key, the tuple that was stored as it, the value -/
abbrev Ents := List (NK × Addr × V)
def EntR (p : NK × Addr × V) (q : NK × Addr × Value) : Prop := p.1 = q.1 ∧ p.2.1 = q.2.1 ∧ RelV p.2.2 q.2.2
def entN (w : World) (x : NK × Addr × Value) : DictEntry := ⟨x.1.hash w, .ref x.2.1, x.2.2⟩
def RawN (w : World) (h : Heap) (a : Addr) (ks : Ents) : Prop :=
  ks.length ≤ sizeLine ∧ (a == sysModules) = false ∧ ∃ xs, Paired EntR ks xs ∧ ∃ o es ep, h.get? a = some o ∧ o.ExactDict ∧ o.data = .dict es ep ∧ es.toList = xs.map (entN w) ∧ (xs.map (·.1)).Nodup
/-- the dict at a -/
def DicN (w : World) (a : Addr) (ks : Ents) : HO := .ext fun h => RawN w h a ks
theorem dicN_ok {P : Program} {w : World} {H : Hp} {h : Heap} {a : Addr} {ks : Ents} (x : RawN w h a ks) : ObjOk P w H h a (DicN w a ks) := by
  refine ⟨x, ?_, fun h1 h2 y k => ?_⟩
  · obtain ⟨_, _, xs, _, o, es, ep, ho, _⟩ := x
    exact ⟨o, ho⟩
  · obtain ⟨z, hd, xs, r, o, es, ep, ho, q⟩ := y
    exact ⟨z, hd, xs, r, o, es, ep, k o ho, q⟩
/-- the keys stand as tuples -/
structure KeyN (K : PySem.W.Frag) (H : Hp) (k : NK) (b : Addr) : Prop where
  dp : Dp K H (.ref b) k.data
  le : k.depth ≤ 8
def KeysN (K : PySem.W.Frag) (H : Hp) (ks : Ents) : Prop := ∀ p ∈ ks, KeyN K H p.1 p.2.1
def valN (ks : Ents) (k : NK) : Option V := (ks.find? fun p => decide (p.1 = k)).map (·.2.2)
def putN (ks : Ents) (k : NK) (b : Addr) (v : V) : Ents :=
  if (valN ks k).isSome then ks.map (fun p => if p.1 = k then (p.1, p.2.1, v) else p) else ks ++ [(k, b, v)]
theorem valN_cons_eq {p : NK × Addr × V} {ks : Ents} {k : NK} (e : p.1 = k) : valN (p :: ks) k = some p.2.2 := by
  unfold valN
  rw [List.find?_cons, decide_eq_true e]
  rfl
theorem valN_cons_ne {p : NK × Addr × V} {ks : Ents} {k : NK} (e : ¬ p.1 = k) : valN (p :: ks) k = valN ks k := by
  unfold valN
  rw [List.find?_cons, decide_eq_false e]
section
variable {X : Cx} {pins : List (Addr × Obj)} {σ : L2.St} {H : Hp} {s : Shared}
mutual
theorem Dp.nested (I : Inv X pins σ H s) : ∀ (k : NK) (v : V) (u : Value), Dp X.K H v k.data → RelV v u → NestedIs s.heap k u
  | .none, _, _, h, r => by
    cases (show Dp X.K H _ .none from h)
    cases r
    exact .none
  | .num i, _, _, h, r => by
    cases (show Dp X.K H _ (.int i) from h)
    obtain ⟨t, rfl⟩ := r
    exact .int i t
  | .text x, _, _, h, r => by
    cases (show Dp X.K H _ (.str x) from h)
    obtain ⟨t, rfl⟩ := r
    exact .text x t
  | .tup ks, _, _, h, r => by
    have h' : Dp X.K H _ (.tuple (NestedKey.datas ks)) := h
    cases h' with
    | tup hs ha =>
      cases r
      obtain ⟨its, rv, ⟨o, ho, hc, n, hd⟩, _⟩ := I.tuple hs
      exact .tup ho hc hd (by simpa using Dp.nestedAll I ks _ its ha rv)
theorem Dp.nestedAll (I : Inv X pins σ H s) : ∀ (ks : List NK) (vs : List V) (us : List Value), DpAll X.K H vs (NestedKey.datas ks) → Vals vs us → NestedAll s.heap ks us
  | [], _, _, h, r => by
    cases (show DpAll X.K H _ [] from h)
    cases r
    exact .nil
  | k :: ks, _, _, h, r => by
    have h' : DpAll X.K H _ (k.data :: NestedKey.datas ks) := h
    cases h' with
    | cons h1 h2 =>
      cases r with
      | cons r1 r2 => exact .cons (Dp.nested I k _ _ h1 r1) (Dp.nestedAll I ks _ _ h2 r2)
end
theorem KeyN.is (I : Inv X pins σ H s) {k : NK} {b : Addr} (h : KeyN X.K H k b) : (nestedKind X.prog X.w).is s.heap k b := ⟨Dp.nested I k _ _ h.dp rfl, h.le⟩
theorem RawN.dict {a : Addr} {ks : Ents} (I : Inv X pins σ H s) (x : RawN X.w s.heap a ks) (hk : KeysN X.K H ks) :
    ks.length ≤ sizeLine ∧ (a == sysModules) = false ∧ ∃ xs, Paired EntR ks xs ∧ s.heap.DictOfH (nestedKind X.prog X.w) a xs := by
  obtain ⟨z, hd, xs, r, o, es, ep, h1, h2, h3, h4, h5⟩ := x
  refine ⟨z, hd, xs, r, o, es, ep, h1, h2, h3, h4, fun y hy => ?_, h5⟩
  have all : ∀ {l : Ents} {m : List (NK × Addr × Value)}, Paired EntR l m → (∀ p ∈ l, KeyN X.K H p.1 p.2.1) → ∀ y ∈ m, (nestedKind X.prog X.w).is s.heap y.1 y.2.1 := by
    intro l m q
    induction q with
    | nil => intro _ y hy; exact nomatch hy
    | @cons p q ps qs hq t ih =>
      intro hl y hy
      rcases List.mem_cons.mp hy with e | hy
      · subst e
        obtain ⟨e1, e2, _⟩ := hq
        rw [← e1, ← e2]
        exact (hl p List.mem_cons_self).is I
      · exact ih (fun p hp => hl p (List.mem_cons_of_mem _ hp)) y hy
  exact all r hk y hy
theorem rawN_rd {a : Addr} {ks : Ents} (I : Inv X pins σ H s) (e : Rd H a (DicN X.w a ks)) : RawN X.w s.heap a ks := (show ObjOk X.prog X.w H s.heap a (DicN X.w a ks) from e.ok I.hok).1
theorem entR_val {ks : Ents} {xs : List (NK × Addr × Value)} (r : Paired EntR ks xs) (k : NK) : RelO (valN ks k) ((atKey xs k).map (·.2)) := by
  induction r with
  | nil => exact True.intro
  | @cons p q ps qs h t ih =>
    obtain ⟨h1, _, h2⟩ := h
    by_cases e : p.1 = k
    · have e' : q.1 = k := h1.symm.trans e
      have b : atKey (q :: qs) k = some q.2 := by simp [atKey, List.find?_cons, e']
      rw [valN_cons_eq e, b]
      exact h2
    · have e' : ¬ q.1 = k := fun z => e (h1.trans z)
      have b : atKey (q :: qs) k = atKey qs k := by simp [atKey, List.find?_cons, e']
      rw [valN_cons_ne e, b]
      exact ih
theorem entR_repl {ks : Ents} {xs : List (NK × Addr × Value)} (r : Paired EntR ks xs) (k : NK) {y : V} {u : Value} (ry : RelV y u) :
    Paired EntR (ks.map fun p => if p.1 = k then (p.1, p.2.1, y) else p) (xs.map (putAt k u)) := by
  induction r with
  | nil => exact .nil
  | @cons p q ps qs h t ih =>
    rw [List.map_cons, List.map_cons]
    refine .cons ?_ ih
    obtain ⟨h1, h2, h3⟩ := h
    unfold putAt
    by_cases e : p.1 = k
    · rw [if_pos e, if_pos (h1.symm.trans e)]
      exact ⟨h1, h2, ry⟩
    · rw [if_neg e, if_neg (fun z => e (h1.trans z))]
      exact ⟨h1, h2, h3⟩
theorem entR_put {ks : Ents} {xs : List (NK × Addr × Value)} (r : Paired EntR ks xs) (k : NK) (b : Addr) {y : V} {u : Value} (ry : RelV y u) : Paired EntR (putN ks k b y) (storedH xs k b u) := by
  have e : (valN ks k).isSome = (atKey xs k).isSome := by
    rw [(entR_val r k).isSome_eq, Option.isSome_map]
  unfold putN storedH
  rw [e]
  by_cases q : (atKey xs k).isSome = true
  · rw [if_pos q, if_pos q]
    exact entR_repl r k ry
  · rw [if_neg q, if_neg q]
    exact Paired.snoc r ⟨rfl, rfl, ry⟩
theorem putN_len (ks : Ents) (k : NK) (b : Addr) (v : V) : (putN ks k b v).length ≤ ks.length + 1 := by
  unfold putN
  split
  · rw [List.length_map]
    omega
  · rw [List.length_append]
    simp
theorem KeysN.put {K : PySem.W.Frag} {ks : Ents} {k : NK} {b : Addr} {v : V} (h : KeysN K H ks) (hk : KeyN K H k b) : KeysN K H (putN ks k b v) := by
  unfold putN
  split
  · intro p hp
    obtain ⟨q, hq, rfl⟩ := List.mem_map.mp hp
    split
    · exact h q hq
    · exact h q hq
  · intro p hp
    rcases List.mem_append.mp hp with z | z
    · exact h p z
    · rw [List.mem_singleton.mp z]
      exact hk
end
section
variable {X : Cx} {w : World}
/-- the dict at a is as ks says, and its keys stand -/
structure DN (K : PySem.W.Frag) (w : World) (H : Hp) (a : Addr) (ks : Ents) : Prop where
  rd : Rd H a (DicN w a ks)
  ky : KeysN K H ks
/-! {} -/
def tDNewN (w : World) : TE := fun _ H Q => ∀ p, H p = none → Q (.ref p) (upd H p (DicN w p []))
theorem pe_dnewN {pos : Pos} (hw : X.w = w := by rfl) : PE X (.Dict [] [] pos) (tDNewN w) := by
  subst hw
  exact ⟨fun pins s σ H Q I h =>
    wpAny_Dict_empty ⟨.ref s.heap.objs.size, _, I.laid (a := s.heap.objs.size) (o := DicN X.w s.heap.objs.size []) (t' := s.toks) (fun _ _ q => Heap.get?_push_of_some _ q) (Nat.le_refl _)
      (dicN_ok ⟨Nat.zero_le _, by
        have := I.big
        simp only [beq_eq_false_iff_ne, ne_eq]
        intro z
        rw [z] at this
        exact Nat.lt_irrefl _ this, [], .nil, _, _, _, Heap.get?_push_size _ rfl, ⟨rfl, rfl, rfl⟩, rfl, rfl, List.nodup_nil⟩), rfl, h _ (I.hok.fresh (Nat.le_refl _))⟩⟩
/-! d[k] -/
def tDGetN (K : PySem.W.Frag) (w : World) (td ty : TE) : TE := fun σ H Q => td σ H fun x H1 => ty σ H1 fun y H2 => ∃ a b ks k v, x = .ref a ∧ y = .ref b ∧ DN K w H2 a ks ∧ KeyN K H2 k b ∧ valN ks k = some v ∧ Q v H2
theorem pe_dgetN {K : PySem.W.Frag} {o i : Expr} {pos : Pos} {td ty : TE} (hu : X.A.units + 64 < cLine) (ho : PE X o td) (hi : PE X i ty) (hs : NoSl i) (hw : X.w = w := by rfl) (hK : X.K = K := by rfl) : PE X (.Subscript o i pos) (tDGetN K w td ty) := by
  subst hw hK
  refine ⟨fun pins s σ H Q I h => ?_⟩
  refine subD_of PySem.F.slot_dict_getitem.lookup hs (thn (ho.run pins s σ H _ I h) fun ov s1 ⟨x, H1, I1, rx, q1⟩ => thn (hi.run pins s1 σ H1 _ I1 q1) fun iv s2 ⟨y, H2, I2, ry, a, b, ks, k, v, ex, ey, D, hk, hv, q2⟩ => ?_)
  subst ex ey
  obtain rfl : ov = Value.ref a := rx
  obtain rfl : iv = Value.ref b := ry
  obtain ⟨z, hd, xs, rel, dd⟩ := (rawN_rd I2 D.rd).dict I2 D.ky
  refine ⟨dd.typeIs, ?_⟩
  have rl := entR_val rel k
  rw [hv] at rl
  obtain ⟨u, hu', ru⟩ := RelO.some_of (v := v) rl
  obtain ⟨p, hp, hp2⟩ := Option.map_eq_some_iff.mp hu'
  refine wpAny_getItem_heap (show X.A.in1.units + 8 < cLine by have : X.A.in1.units = X.A.units + 1 := rfl; omega) (hk.is I2) dd hp ?_
  rw [hp2]
  exact ⟨v, H2, I2.tok _, ru, q2⟩
end
end Kw
/-! dicts whose keys are nested tuples: stores, membership, get, walks -/
namespace Kw
open PySem PySem.Spec PyProof.Rows L2 RZ StX SrtO
section
variable {X : Cx} {w : World} {K : PySem.W.Frag}
theorem room_in1 (hu : X.A.units + 64 < cLine) : X.A.in1.units + 8 < cLine := by
  have : X.A.in1.units = X.A.units + 1 := rfl
  omega
/-! d[k] = v -/
def rSetN (K : PySem.W.Frag) (w : World) : TSet := fun o i v H Q => ∃ a b ks k, o = .ref a ∧ i = .ref b ∧ H a = some (DicN w a ks) ∧ KeysN K H ks ∧ KeyN K H k b ∧ ks.length < sizeLine ∧ Q (upd H a (DicN w a (putN ks k b v)))
theorem set_dN (hu : X.A.units + 64 < cLine) (hw : X.w = w := by rfl) (hK : X.K = K := by rfl) : PSet X (rSetN K w) := by
  subst hw hK
  intro pins s σ H o i v ov iv u Q I ro ri rv h
  obtain ⟨a, b, ks, k, eo, ei, ha, hks, hk, hl, q⟩ := h
  subst eo ei
  obtain rfl : ov = Value.ref a := ro
  obtain rfl : iv = Value.ref b := ri
  obtain ⟨z, hd, xs, rel, dd⟩ := (rawN_rd I (.inl ha)).dict I hks
  have hz : xs.length ≤ sizeLine := by rw [← Paired.length rel]; exact z
  have hl2 : (putN ks k b v).length ≤ sizeLine := by have := putN_len ks k b v; omega
  refine wpAny_setItem_heap (hsz := hz) (room_in1 hu) (hk.is I) dd fun h' dd' hs => ⟨_, ?_, q⟩
  obtain ⟨q, es, ep, hq, h2, h3, h4, _, h5⟩ := dd'
  exact d_write I (by rw [ha]; exact True.intro) hs ⟨q, hq⟩ (dicN_ok ⟨hl2, hd, _, entR_put rel k b rv, q, es, ep, hq, h2, h3, h4, h5⟩)
/-! k in d, k not in d -/
def rInN (K : PySem.W.Frag) (w : World) (neg : Bool) : R2 := fun x y H Q => ∃ a b ks k, x = .ref b ∧ y = .ref a ∧ DN K w H a ks ∧ KeyN K H k b ∧ Q (.bl (if neg then !(valN ks k).isSome else (valN ks k).isSome)) H
theorem op_inN (hu : X.A.units + 64 < cLine) (hw : X.w = w := by rfl) (hK : X.K = K := by rfl) : OpR X (compareOp .In) (rInN K w false) := by
  subst hw hK
  intro pins s σ H x y v u Q I rx ry h
  obtain ⟨a, b, ks, k, ex, ey, D, hk, q⟩ := h
  subst ex ey
  obtain rfl : v = Value.ref b := rx
  obtain rfl : u = Value.ref a := ry
  obtain ⟨z, hd, xs, rel, dd⟩ := (rawN_rd I D.rd).dict I D.ky
  refine wpAny_in_heap (room_in1 hu) (hk.is I) hd dd ⟨_, H, I.tok _, ?_, q⟩
  have r := (entR_val rel k).isSome_eq
  rw [Option.isSome_map] at r
  rw [← r]
  rfl
theorem op_notInN (hu : X.A.units + 64 < cLine) (hw : X.w = w := by rfl) (hK : X.K = K := by rfl) : OpR X (compareOp .NotIn) (rInN K w true) := by
  subst hw hK
  intro pins s σ H x y v u Q I rx ry h
  obtain ⟨a, b, ks, k, ex, ey, D, hk, q⟩ := h
  subst ex ey
  obtain rfl : v = Value.ref b := rx
  obtain rfl : u = Value.ref a := ry
  obtain ⟨z, hd, xs, rel, dd⟩ := (rawN_rd I D.rd).dict I D.ky
  refine wpAny_notIn_heap (room_in1 hu) (hk.is I) hd dd ⟨_, H, I.tok _, ?_, q⟩
  have r := (entR_val rel k).isSome_eq
  rw [Option.isSome_map] at r
  rw [← r]
  rfl
/-! d.get(k, x), d.pop(k) -/
theorem rawN_ty {pins : List (Addr × Obj)} {σ : L2.St} {H : Hp} {s : Shared} {a : Addr} {ks : Ents} (I : Inv X pins σ H s) (e : Rd H a (DicN X.w a ks)) :
    s.TypeIs (.ref a) "dict" ∧ (∀ b, Value.ref a = .ref b → ∃ ob, s.heap.get? b = some ob ∧ ob.dict = none) ∧ (a == sysModules) = false := by
  obtain ⟨z, hd, xs, r, o, es, ep, h1, h2, _⟩ := rawN_rd I e
  refine ⟨⟨o, h1, h2.1⟩, fun b q => ?_, hd⟩
  cases q
  exact ⟨o, h1, h2.2.1⟩
def rGetN (K : PySem.W.Frag) (w : World) : V → List V → Hp → VK → Prop := fun x xs H Q => ∃ a b ks k z, x = .ref a ∧ xs = [.ref b, z] ∧ DN K w H a ks ∧ KeyN K H k b ∧ Q ((valN ks k).getD z) H
theorem mt_getN (hu : X.A.units + 64 < cLine) (hw : X.w = w := by rfl) (hK : X.K = K := by rfl) : MtR X "dict.get" (rGetN K w) := by
  subst hw hK
  intro pins s σ H x xs v us Q I rx rxs h
  obtain ⟨a, b, ks, k, z, ex, exs, D, hk, q⟩ := h
  subst ex exs
  obtain rfl : v = Value.ref a := rx
  obtain ⟨u1, u2, rfl, r1, r2⟩ := vals2 rxs
  obtain rfl : u1 = Value.ref b := r1
  obtain ⟨_, hd, ys, rel, dd⟩ := (rawN_rd I D.rd).dict I D.ky
  refine call_meetsIn PySem.F.slot_dict_get dd.typeIs PySem.F.entry_dict_get (PySem.F.args_dict_get_3 _ _ _) (meetsH_dict_get_default (nestedKind X.prog X.w) a b hd u2) ⟨room_in1 (X := X) hu, k, ys, hk.is I, dd, ?_⟩
  exact ⟨_, H, I.tok _, (entR_val rel k).getD r2, q⟩
/-! walks -/
theorem Inv.frzN {pins : List (Addr × Obj)} {σ : L2.St} {H : Hp} {s : Shared} {d : Addr} {o : Obj} {ks : Ents} (I : Inv X pins σ H s) (h : H d = some (.frz o (DicN X.w d ks))) :
    (d == sysModules) = false ∧ s.heap.get? d = some o ∧ o.ExactDict ∧ ∃ (es : Array DictEntry) (ep : Nat), o.data = .dict es ep ∧ es.size = ks.length ∧
      ∀ (i : Nat) (p : NK × Addr × V), ks[i]? = some p → ∃ (en : DictEntry), es[i]? = some en ∧ en.key = .ref p.2.1 ∧ RelV p.2.2 en.val := by
  obtain ⟨hd, x, _⟩ := I.hok d _ h
  obtain ⟨z, hs, xs, pr, o', es, ep, ho, hx, hdt, he, _⟩ := x
  rw [hd] at ho
  cases ho
  have sz : es.size = xs.length := by rw [← Array.length_toList, he, List.length_map]
  refine ⟨hs, hd, hx, es, ep, hdt, ?_, fun i p e => ?_⟩
  · have l2 : ks.length = xs.length := Paired.length pr
    omega
  · obtain ⟨b, hb, e1, e2, e3⟩ := paired_get pr e
    have q : es[i]? = (xs[i]?).map (entN X.w) := by rw [← Array.getElem?_toList, he, List.getElem?_map]
    rw [hb] at q
    exact ⟨_, q, by show Value.ref b.2.1 = _; rw [e2], e3⟩
/-- the keys of the locked dict: the stored tuples -/
def Itkn (w : World) (d : Addr) (o : Obj) (ks : Ents) : It :=
  ⟨fun i H => H d = some (.frz o (DicN w d ks)) ∧ i < ks.length, fun i H x H' => H' = H ∧ ∃ p, ks[i]? = some p ∧ x = .ref p.2.1, fun i H => H d = some (.frz o (DicN w d ks)) ∧ ks.length ≤ i⟩
/-- the pairs, each a new tuple -/
def Itin (w : World) (d : Addr) (o : Obj) (ks : Ents) : It :=
  ⟨fun i H => H d = some (.frz o (DicN w d ks)) ∧ i < ks.length, fun i H x H' => ∃ T p, ks[i]? = some p ∧ x = .ref T ∧ H T = none ∧ H' = upd H T (.tup [.ref p.2.1, p.2.2]), fun i H => H d = some (.frz o (DicN w d ks)) ∧ ks.length ≤ i⟩
section
variable {P : Program} {tg : Expr} {d : Addr} {o : Obj} {es : Array DictEntry} {ep : Nat}
theorem turn_keysN {ks : Ents} (it : Addr) (hod : o.data = .dict es ep) : Turn P w K tg (Itkn w d o ks) [it] it (fun i h => h.IsKeyIter it d i ks.length ep) where
  mem := by simp
  obj := fun i h st b hb => by
    have e : b = it := by simpa using hb
    subst e
    obtain ⟨oi, e, c, dd⟩ := st
    exact ⟨oi, e, fun v z => by rw [dd] at z; cases z⟩
  keep := fun i h h' st k => st.at fun oi e => k it (by simp) oi e
  item := by
    intro X hP hw hK hc i pins s σ H E I hf st hg
    subst hP hw hK
    obtain ⟨hd, hi⟩ := hg
    obtain ⟨f0, f1, f2, f3, f4, f5⟩ := hf it (by simp)
    obtain ⟨hs, hgd, hx, es', ep', hdt, hsz, ent⟩ := Inv.frzN I hd
    obtain ⟨rfl, rfl⟩ := dict_ep hod hdt
    obtain ⟨p, hp⟩ : ∃ p, ks[i]? = some p := ⟨ks[i], List.getElem?_eq_getElem hi⟩
    obtain ⟨en, hen, hkey, _⟩ := ent i p hp
    refine next_key_item st hgd hdt hsz hen fun h' st' sb => ?_
    have I1 : Inv X pins σ H { s with heap := h' } := I.turned (t' := s.toks) (fun b ob hb e => (sb.2 b hb).trans e) f0 f1 f3 f4 f5
    obtain ⟨oi, e, c, dd⟩ := id st'
    exact ⟨en.key, rfl, go_of (s := { s with heap := h' }) e c dd (by decide) ⟨.ref p.2.1, H, I1, hkey, ⟨rfl, p, hp, rfl⟩, st', fun b hb => (hf b hb).1⟩⟩
  done := by
    intro X hP hw hK hc i pins s σ H E I hf st hg
    subst hP hw hK
    obtain ⟨hd, hi⟩ := hg
    obtain ⟨f0, f1, f2, f3, f4, f5⟩ := hf it (by simp)
    obtain ⟨hs, hgd, hx, es', ep', hdt, hsz, ent⟩ := Inv.frzN I hd
    obtain ⟨rfl, rfl⟩ := dict_ep hod hdt
    exact next_key_end (I.ok.hd hc) st hgd hdt hsz hi fun h' eb => ⟨rfl, I.turned (t' := s.toks) (fun b ob hb e => eb b ob hb e) f0 f1 f3 f4 f5⟩
  self := fun A i s Q E st h => by
    refine wpAny_pyIter_slot st.typeIs F.slot_dict_keyiterator_iter (wpAny_call_entry F.slot_dict_keyiterator_iter st.typeIs F.entry_dict_keyiterator_iter ?_ (F.args_dict_keyiterator_iter_1 _))
    show wpAny _ _ (ret (.ref it)) _ _ s
    exact wpAny_pure ⟨_, rfl, "dict_keyiterator", _, st.typeIs, F.slot_dict_keyiterator_next.lookup, h⟩
def iKeysN (w : World) (td : TE) : TI := fun σ H R => td σ H fun x H1 => ∃ d o ks, x = .ref d ∧ H1 d = some (.frz o (DicN w d ks)) ∧ R (Itkn w d o ks) H1
theorem pi_keysN {e : Expr} {td : TE} (he : PE X e td) (hw : X.w = w := by rfl) : PI X tg e (iKeysN w td) := by
  subst hw
  refine ⟨fun pins s σ H R I h => ?_⟩
  refine thn (he.run pins s σ H _ I h) fun u s1 ⟨x, H1, I1, rx, d, o, ks, ex, hd, q⟩ => ?_
  subst ex
  obtain rfl : u = Value.ref d := rx
  obtain ⟨hs, hgd, hx, es, ep, hdt, hsz, ent⟩ := Inv.frzN I1 hd
  refine iter_keys hs hgd hx hdt (pi_one (tk := s1.toks) I1 _ (turn_keysN _ hdt) ⟨_, Heap.get?_push_size _ rfl, rfl, ?_⟩ q)
  rw [hsz] <;> rfl
theorem turn_itemsN {ks : Ents} {elts : List Expr} {kk : Nat} {tpos : Pos} (it : Addr) (hod : o.data = .dict es ep) :
    Turn P w K (.Tuple elts kk tpos) (Itin w d o ks) [it] it (fun i h => ∃ ok ov, IsItemIter h it d i ks.length ep ok ov) where
  mem := by simp
  obj := fun i h st b hb => by
    have e : b = it := by simpa using hb
    subst e
    obtain ⟨ok, ov, e⟩ := st
    exact ⟨_, e, fun v z => nomatch z⟩
  keep := fun i h h' st k => let ⟨ok, ov, e⟩ := st; ⟨ok, ov, k it (by simp) _ e⟩
  item := by
    intro X hP hw hK hc i pins s σ H E I hf st hg
    subst hP hw hK
    obtain ⟨hd, hi⟩ := hg
    obtain ⟨hs, hgd, hx, es', ep', hdt, hsz, ent⟩ := Inv.frzN I hd
    obtain ⟨rfl, rfl⟩ := dict_ep hod hdt
    obtain ⟨p, hp⟩ : ∃ p, ks[i]? = some p := ⟨ks[i], List.getElem?_eq_getElem hi⟩
    obtain ⟨en, hen, hkey, hval⟩ := ent i p hp
    obtain ⟨ok, ov, he⟩ := st
    rw [← hsz] at he
    have hlt : it < s.heap.objs.size := Heap.lt_size he
    have hi' : i < es'.size := by rw [hsz]; exact hi
    have eget : es'[i] = en := by
      rw [Array.getElem?_eq_getElem hi'] at hen
      exact Option.some.inj hen
    refine DT.nextI he ⟨o, hgd, hx, hdt⟩ hi' fun h' ho hT hz hk => ?_
    rw [eget] at ho hT
    refine ⟨_, rfl, wpAny_letOwnedTupleGo_items (s := { s with heap := h' }) ho fun h'' he' sb => ?_⟩
    have hT2 : h''.get? s.heap.objs.size = some { cls := .type "tuple", data := .seq #[en.key, en.val] } := (sb.2 _ (Nat.ne_of_gt hlt)).trans hT
    have new : ObjOk X.prog X.w (upd H s.heap.objs.size (.tup [.ref p.2.1, p.2.2])) h'' s.heap.objs.size (.tup [.ref p.2.1, p.2.2]) :=
      ⟨by show 2 ≤ sizeLine; decide, [en.key, en.val], .cons hkey (.cons hval .nil), ⟨_, hT2, rfl, _, rfl⟩⟩
    have I1 : Inv X pins σ (upd H s.heap.objs.size (.tup [.ref p.2.1, p.2.2])) { s with heap := h'' } :=
      I.turnedNew (t' := s.toks) (ch := [it]) (fun b ob hb e => (sb.2 b (by simpa using hb)).trans (hk b ob (by simpa using hb) e)) hf (Nat.le_refl _) new
    refine ⟨.ref s.heap.objs.size, _, I1, rfl, ⟨_, p, hp, rfl, I.hok.fresh (Nat.le_refl _), rfl⟩, ⟨en.key, en.val, ?_⟩, fun b hb => ?_⟩
    · rw [← hsz]; exact he'
    · have e : b = it := by simpa using hb
      rw [e, upd_ne (Nat.ne_of_lt hlt)]
      exact (hf it (by simp)).1
  done := by
    intro X hP hw hK hc i pins s σ H E I hf st hg
    subst hP hw hK
    obtain ⟨hd, hi⟩ := hg
    obtain ⟨f0, f1, f2, f3, f4, f5⟩ := hf it (by simp)
    obtain ⟨hs, hgd, hx, es', ep', hdt, hsz, ent⟩ := Inv.frzN I hd
    obtain ⟨rfl, rfl⟩ := dict_ep hod hdt
    obtain ⟨ok, ov, he⟩ := st
    rw [← hsz] at he
    exact DT.endI (I.ok.hd hc) he ⟨o, hgd, hx, hdt⟩ (by omega) fun h' eb => ⟨rfl, I.turned (t' := s.toks) (fun b ob hb e => eb b ob hb e) f0 f1 f3 f4 f5⟩
  self := fun A i s Q E st h => let ⟨_, _, e⟩ := st; PySem.W.kcp_self e h
def iItemsN (w : World) (td : TE) : TI := fun σ H R => td σ H fun x H1 => ∃ d o ks, x = .ref d ∧ H1 d = some (.frz o (DicN w d ks)) ∧ R (Itin w d o ks) H1
theorem pi_itemsN {e : Expr} {td : TE} {apos cpos : Pos} {elts : List Expr} {kk : Nat} {tpos : Pos} (he : PE X e td) (hw : X.w = w := by rfl) (hbase : attributeBase e "items" X.env (eval e X.env) = eval e X.env := by rfl) (hline : (apos.endLine == cpos.line) = true := by rfl) :
    PI X (.Tuple elts kk tpos) (.Call (.Attribute e "items" apos) [] [] cpos) (iItemsN w td) := by
  subst hw
  refine ⟨fun pins s σ H R I h => ?_⟩
  refine wpAny_Call_method (T := "dict") (id := "dict.items") hbase rfl hline F.plainAttrs_dict F.slot_dict_items F.type_dict_items (thn (he.run pins s σ H _ I h) fun u s1 ⟨x, H1, I1, rx, d, o, ks, ex, hd, q⟩ => ?_)
  subst ex
  obtain rfl : u = Value.ref d := rx
  obtain ⟨hs, hgd, hx, es, ep, hdt, hsz, ent⟩ := Inv.frzN I1 hd
  obtain ⟨t1, t2, _⟩ := rawN_ty I1 (ks := ks) (.inr ⟨o, hd⟩)
  refine ⟨t1, t2, ?_⟩
  have I2 : Inv X pins σ H1 { s1 with heap := s1.heap.push { cls := .type "dict_items", data := .fields #[.ref d] } } := I1.kept (t' := s1.toks) fun b ob q => Heap.get?_push_of_some _ q
  have fin : wpAny (model X.prog X.w) X.A (pyIter (.ref s1.heap.objs.size)) (PIE X pins σ (.Tuple elts kk tpos) R) X.xe { s1 with heap := s1.heap.push { cls := .type "dict_items", data := .fields #[.ref d] } } := by
    refine DT.iterI (d := d) (es := es) (ep := ep) ⟨_, Heap.get?_push_size _ rfl, rfl, rfl⟩ ⟨o, Heap.get?_push_of_some _ hgd, hx, hdt⟩ (pi_one (tk := s1.toks) I2 _ (turn_itemsN (ks := ks) _ hdt) ⟨.none, .none, ?_⟩ q)
    rw [← hsz]
    exact Heap.get?_push_size _ rfl
  show wpAny _ _ (callWith cpos (.builtin "dict.items") [.ref d] [] []) _ X.xe s1
  exact method_meetsIn F.slot_dict_items F.entry_dict_items rfl (PySem.evalArgs_none ⟨rfl, t1, F.args_dict_items_1 _, _, DT.meetsItems (es := es) (ep := ep) hs, ⟨o, hgd, hx, hdt⟩, fin⟩)
theorem walk_keysN {ks : Ents} : Walk (Itkn w d o ks) ks.length (fun H => H d = some (.frz o (DicN w d ks))) (fun i H x H' => H' = H ∧ ∃ p, ks[i]? = some p ∧ x = .ref p.2.1) :=
  ⟨fun _ _ hi q => ⟨q, hi⟩, fun _ q => ⟨q, Nat.le_refl _⟩, fun _ _ _ _ _ _ y => y⟩
theorem walk_itemsN {ks : Ents} : Walk (Itin w d o ks) ks.length (fun H => H d = some (.frz o (DicN w d ks))) (YPair (fun i => ks[i]?.map fun p => V.ref p.2.1) (fun i => ks[i]?.map fun p => p.2.2)) := by
  refine ⟨fun _ _ hi q => ⟨q, hi⟩, fun _ q => ⟨q, Nat.le_refl _⟩, fun i H x H' _ _ y => ?_⟩
  obtain ⟨T, p, h1, h2, h3, h4⟩ := y
  exact ⟨T, .ref p.2.1, p.2.2, h2, h3, h4, by simp [h1], by simp [h1]⟩
end
end
end Kw
/-! lists of data sorted; data compared by < -/
namespace Kw
open PySem PySem.Spec PyProof.Rows L2 RZ StX SrtO
section
variable {X : Cx} {K : PySem.W.Frag}
/-- sorted(xs): the values with what they read as -/
def rSortD (K : PySem.W.Frag) : List V → Hp → VK → Prop := fun vs H Q => ∃ (a : Addr) (zs : List (V × PyData)), vs = [.ref a] ∧ SqL K H a (zs.map (·.1)) ∧ (∀ z ∈ zs, Dp K H z.1 z.2) ∧
  PySem.W.AllAlike (zs.map (·.2)) ∧ PySem.W.Sortable (zs.map (·.2)) ∧ (∀ z ∈ zs, z.2.depth ≤ 40) ∧ zs.length ≤ sizeLine ∧
  ∀ p, H p = none → Q (.ref p) (upd H p (.lst ((zs.mergeSort (PySem.W.dataLe false (·.2))).map (·.1))))
theorem each_of {pins : List (Addr × Obj)} {σ : L2.St} {H : Hp} {s : Shared} (I : Inv X pins σ H s) : ∀ (zs : List (V × PyData)) (us : List Value), Vals (zs.map (·.1)) us → (∀ z ∈ zs, Dp X.K H z.1 z.2) →
    PySem.W.EachIs (fun (u : Value) (b : V × PyData) => RelV b.1 u) us zs ∧ PySem.W.EachIs (fun (u : Value) (b : V × PyData) => ∃ as, Reads s.heap u b.2 as) us zs
  | [], _, r, _ => by
    cases r
    exact ⟨.nil, .nil⟩
  | z :: zs, _, r, h => by
    cases r with
    | cons r1 r2 =>
      obtain ⟨e1, e2⟩ := each_of I zs _ r2 fun x hx => h x (List.mem_cons_of_mem _ hx)
      exact ⟨.cons r1 e1, .cons (Dp.reads I z.2 z.1 _ (h z List.mem_cons_self) r1) e2⟩
theorem vals_each : ∀ {us : List Value} {zs : List (V × PyData)}, PySem.W.EachIs (fun (u : Value) (b : V × PyData) => RelV b.1 u) us zs → Vals (zs.map (·.1)) us
  | _, _, .nil => .nil
  | _, _, .cons h t => .cons h (vals_each t)
theorem cr_sortD0 (hu : X.A.units + 64 < cLine) : CallR X (.builtin "sorted") (rSortD X.K) := by
  intro pins s σ H vs us Q I r h
  obtain ⟨a, zs, rfl, hs, hd, ha, hk, hdp, hz, q⟩ := h
  obtain ⟨u, rfl, ru⟩ := vals1 r
  obtain rfl : u = Value.ref a := ru
  obtain ⟨its, rv, hl, _⟩ := I.list hs
  obtain ⟨e1, e2⟩ := each_of I zs its rv hd
  refine PySem.W.sorted_data hl.isList e1 e2 ha hk hz (fun b hb => ?_) fun out ho eo => ?_
  · have := hdp b hb
    omega
  · obtain ⟨ep, he'⟩ := PyProof.Rows.sortedAll_at s.heap its out.toArray
    have v := vals_each eo
    refine ⟨.ref _, upd H (s.heap.objs.size + 1) (.lst ((zs.mergeSort (PySem.W.dataLe false (·.2))).map (·.1))), I.laid (t' := s.toks) (fun _ _ => PyProof.Rows.sortedAll_old) (Nat.le_succ _) ⟨?_, out, ep, v, he'⟩, rfl, q _ (I.hok.fresh (Nat.le_succ _))⟩
    rw [List.length_map, List.length_mergeSort]
    exact hz
theorem cr_sortD (hu : X.A.units + 64 < cLine) (hK : X.K = K := by rfl) : CallR X (.builtin "sorted") (rSortD K) := hK ▸ cr_sortD0 hu
/-- x < y -/
def rLtD (K : PySem.W.Frag) : R2 := fun x y H Q => ∃ d e, Dp K H x d ∧ Dp K H y e ∧ PySem.W.alike d e = true ∧ d ≠ .none ∧ d.depth ≤ 40 ∧ Q (.bl (PySem.W.dataLt d e)) H
theorem op_ltD (hu : X.A.units + 64 < cLine) (hK : X.K = K := by rfl) : OpR X (compareOp .Lt) (rLtD K) := by
  subst hK
  intro pins s σ H x y v u Q I rx ry h
  obtain ⟨d, e, hd, he, ha, hn, hdp, q⟩ := h
  obtain ⟨as, r1⟩ := Dp.reads I d x v hd rx
  obtain ⟨bs, r2⟩ := Dp.reads I e y u he ry
  refine PySem.W.lt_data r1 r2 ha hn ?_ ⟨.bl _, H, I, rfl, q⟩
  have : min d.depth e.depth ≤ 40 := Nat.le_trans (Nat.min_le_left _ _) hdp
  omega
end
end Kw
/-! every second item of a tuple -/
namespace Kw
open PySem PySem.Spec PyProof.Rows L2 RZ StX SrtO
def evens {α : Type} : List α → List α
  | [] => []
  | [x] => [x]
  | x :: _ :: r => x :: evens r
theorem evens_cons {α : Type} (x : α) : ∀ l : List α, evens (x :: l) = x :: evens (l.drop 1)
  | [] => rfl
  | _ :: _ => rfl
theorem evens_sub {α : Type} : ∀ l : List α, (evens l).Sublist l
  | [] => .slnil
  | [x] => List.Sublist.refl _
  | x :: y :: r => .cons_cons _ (.cons _ (evens_sub r))
/-- how many there are, from place k on -/
def halfN (n k : Nat) : Nat := (n - k + 1) / 2
theorem pick2 {α : Type} (xs : Array α) : ∀ (n : Nat) (l : List α) (k : Nat), n = l.length → l = xs.toList.drop k → ((List.range (halfN (k + l.length) k)).filterMap fun (m : Nat) => xs[k + m * 2]?) = evens l := by
  intro n
  induction n using Nat.strongRecOn with
  | ind n ih =>
    intro l k hn hl
    have get : ∀ i : Nat, l[i]? = xs[k + i]? := fun i => by rw [hl, List.getElem?_drop, Array.getElem?_toList]
    match l, hl, hn, get with
    | [], hl, hn, get =>
      have : halfN (k + ([] : List α).length) k = 0 := by unfold halfN; simp
      rw [this]
      rfl
    | [x], hl, hn, get =>
      have e : halfN (k + [x].length) k = 1 := by
        unfold halfN
        simp
      rw [e]
      have h0 := get 0
      simp only [List.getElem?_cons_zero, Nat.add_zero] at h0
      show ([0].filterMap fun (m : Nat) => xs[k + m * 2]?) = [x]
      simp [← h0]
    | x :: y :: r, hl, hn, get =>
      have hl2 : r = xs.toList.drop (k + 2) := by
        have := congrArg (List.drop 2) hl
        rw [List.drop_drop] at this
        simpa using this
      have q := ih r.length (by rw [hn]; simp; omega) r (k + 2) rfl hl2
      have e : halfN (k + (x :: y :: r).length) k = halfN (k + 2 + r.length) (k + 2) + 1 := by
        unfold halfN
        simp only [List.length_cons]
        omega
      rw [e, List.range_succ_eq_map, List.filterMap_cons]
      have h0 := get 0
      simp only [List.getElem?_cons_zero, Nat.add_zero] at h0
      have : xs[k + 0 * 2]? = some x := by rw [Nat.zero_mul, Nat.add_zero]; exact h0.symm
      rw [this]
      show x :: List.filterMap (fun m => xs[k + m * 2]?) (List.map Nat.succ (List.range (halfN (k + 2 + r.length) (k + 2)))) = x :: evens r
      rw [← q, List.filterMap_map]
      congr 1
      refine congrArg (fun f => List.filterMap f _) (funext fun m => ?_)
      show xs[k + (m + 1) * 2]? = xs[k + 2 + m * 2]?
      congr 1
      omega
section
variable {prog : Program} {w : World} {A : Around} {E : Value → Shared → Prop} {s : Shared}
theorem adj2 (k n : Nat) (lo : Option Int) (hlo : (lo = none ∧ k = 0) ∨ ∃ j : Nat, lo = some (j : Int) ∧ k = min j n) : Builtin.Slice.sliceAdjust lo none 2 (n : Int) = ((k : Int), (n : Int)) := by
  unfold Builtin.Slice.sliceAdjust
  rcases hlo with ⟨rfl, rfl⟩ | ⟨j, rfl, rfl⟩
  · rfl
  · have h1 : ¬ ((j : Int) < 0) := by omega
    simp only [h1, if_false, show ¬ ((2 : Int) < 0) by decide]
    rw [show min (j : Int) (n : Int) = ((min j n : Nat) : Int) by omega]
theorem places2 (k n : Nat) (h : k ≤ n) : Builtin.Slice.slicePlaces (k : Int) (n : Int) 2 = halfN n k := by
  unfold Builtin.Slice.slicePlaces halfN
  simp only [show ((2 : Int) > 0) by decide, if_true]
  split <;> omega
theorem applied2 {sl : Addr} {vl vs : Value} {lo : Option Int} {k n : Nat} {Q : Int × Int × Nat → Shared → Prop} (hs : s.heap.IsSliceOf sl vl .none vs) (pl : IsPart vl lo) (ps : IsPart vs (some 2)) (hlo : (lo = none ∧ k = 0) ∨ ∃ j : Nat, lo = some (j : Int) ∧ k = min j n)
    (h : Q ((k : Int), 2, halfN n k) s) : wpAny (model prog w) A (Builtin.Slice.sliceApplied (.ref sl) (pure (n : Int))) Q E s := by
  have hk : k ≤ n := by
    rcases hlo with ⟨_, rfl⟩ | ⟨j, _, rfl⟩
    · exact Nat.zero_le _
    · exact Nat.min_le_right _ _
  obtain ⟨os, hos, hcs, hds⟩ := id hs
  unfold Builtin.Slice.sliceApplied Builtin.Slice.sliceFields
  refine wpAny_bind (wpAny_bind (wpAny_field hos hds (x := vl) rfl (wpAny_bind (wpAny_field hos hds (x := .none) rfl (wpAny_bind (wpAny_field hos hds (x := vs) rfl (wpAny_pure ?_)))))))
  refine wpAny_bind (HT.slicePart_ ps ?_)
  show wpAny _ _ (if ((2 : Int) == 0) = true then _ else _) _ _ s
  rw [if_neg (by decide)]
  refine wpAny_bind (HT.slicePart_ pl (wpAny_bind (slicePart_none (wpAny_bind (wpAny_pure ?_)))))
  show wpAny _ _ (match Builtin.Slice.sliceAdjust lo none 2 (n : Int) with | (lo, hi) => pure (lo, (2 : Int), Builtin.Slice.slicePlaces lo hi 2)) _ _ s
  rw [adj2 k n lo hlo]
  show wpAny _ _ (pure ((k : Int), (2 : Int), Builtin.Slice.slicePlaces (k : Int) (n : Int) 2)) _ _ s
  rw [places2 k n hk]
  exact wpAny_pure h
theorem getItem_half {t sl : Addr} {items : List Value} {vl vs : Value} {lo : Option Int} {k : Nat} {Q : Value → Shared → Prop} (ht : IsTup s.heap t items.toArray) (hs : s.heap.IsSliceOf sl vl .none vs) (pl : IsPart vl lo) (ps : IsPart vs (some 2))
    (hlo : (lo = none ∧ k = 0) ∨ ∃ j : Nat, lo = some (j : Int) ∧ k = min j items.length) (hz : items.length ≤ sizeLine)
    (h : Q (.ref s.heap.objs.size) { s with heap := s.heap.push { cls := .type "tuple", data := .seq (evens (items.drop k)).toArray } }) : wpAny (model prog w) A (getItem (.ref t) (.ref sl)) Q E s := by
  have hk : k ≤ items.length := by
    rcases hlo with ⟨_, rfl⟩ | ⟨j, _, rfl⟩
    · exact Nat.zero_le _
    · exact Nat.min_le_right _ _
  have esz : items.toArray.size = items.length := List.size_toArray
  have fits : sizeOk (.seq (evens (items.drop k)).toArray) := by
    show (evens (items.drop k)).toArray.size ≤ sizeLine
    rw [List.size_toArray]
    have h1 := (evens_sub (items.drop k)).length_le
    rw [List.length_drop] at h1
    omega
  obtain ⟨os, hos, hcs, hds⟩ := id hs
  have hTs : s.TypeIs (.ref sl) "slice" := ⟨os, hos, hcs⟩
  unfold getItem
  try with_reducible refine wpAny_holding ?_
  first | refine wpAny_bind (wpAny_pure ?_) | skip
  refine wpAny_bind (wpAny_sequenceKey ht.typeIs (by decide) ?_)
  refine wpAny_bind (wpAny_callSpecial?_slot (name := Str.ofString "__getitem__") ht.typeIs PyProof.Rows.slot_tuple_getitem
    (wpAny_call_entry PyProof.Rows.slot_tuple_getitem ht.typeIs PyProof.Rows.entry_tuple_getitem ?_ (PyProof.Rows.args_tuple_getitem _ _)))
  show wpAny _ _ (Builtin.Tuple.tupleItemsOf (.ref t) >>= _) _ _ s
  refine wpAny_bind (PyProof.Rows.tupleItemsOf_ ht ?_)
  refine wpAny_bind (wpAny_typeOf hTs ?_)
  rw [if_pos (by decide), esz]
  refine wpAny_bind (applied2 hs pl ps hlo ?_)
  show wpAny _ _ (if (((k : Nat) : Int) == 0 && (2 : Int) == 1 && halfN items.length k == items.length) = true then _ else _) _ _ s
  have pk : ((List.range (halfN items.length k)).filterMap fun (m : Nat) => items.toArray[((k : Int) + (m : Int) * 2).toNat]?).toArray = (evens (items.drop k)).toArray := by
    have q := pick2 items.toArray (items.drop k).length (items.drop k) k rfl (by simp)
    rw [List.length_drop, show k + (items.length - k) = items.length by omega] at q
    rw [← q]
    refine congrArg List.toArray (congrArg (fun f => List.filterMap f _) (funext fun m => ?_))
    congr 1
  rw [if_neg (by simp), pk]
  first
    | exact wpAny_bind (m := Builtin.Tuple.tupleExact _) (wpAny_newObj_type (wpAny_pure ⟨_, rfl, wpAny_pure h⟩) fits)
    | exact wpAny_bind (m := Builtin.Tuple.tupleExact _) (wpAny_newObj_type (wpAny_bind (wpAny_pure (wpAny_pure ⟨_, rfl, wpAny_pure h⟩))) fits)
    | exact wpAny_bind (wpAny_bind (m := Builtin.Tuple.tupleExact _) (wpAny_newObj_type (wpAny_pure (wpAny_pure ⟨_, rfl, wpAny_pure h⟩)) fits))
    | exact wpAny_bind (wpAny_bind (m := Builtin.Tuple.tupleExact _) (wpAny_newObj_type (wpAny_pure ⟨_, rfl, wpAny_pure h⟩) fits))
end
theorem vals_evens : ∀ {xs : List V} {us : List Value}, Vals xs us → Vals (evens xs) (evens us)
  | _, _, .nil => .nil
  | _, _, .cons r .nil => .cons r .nil
  | _, _, .cons r (.cons _ t) => .cons r (vals_evens t)
/-- t[::2], t[j::2] -/
def tHalf (K : PySem.W.Frag) (te : TE) (tl : TO) : TE := fun σ H Q => te σ H fun x H1 => tl σ H1 fun lo H2 => ∃ a xs k, x = .ref a ∧ SqT K H2 a xs ∧ ((lo = none ∧ k = 0) ∨ ∃ j : Nat, lo = some (j : Int) ∧ k = min j xs.length) ∧
  ∀ p, H2 p = none → Q (.ref p) (upd H2 p (.tup (evens (xs.drop k))))
theorem pe_half {X : Cx} {K : PySem.W.Frag} {e : Expr} {te : TE} {lo : Option Expr} {tl : TO} {k : Nat} {p1 p2 pos : Pos} (he : PE X e te) (hl : PO X lo tl) (hK : X.K = K := by rfl)
    (hs : ∀ ov iv, subscripted (.Slice lo none (some (.Constant (.int 2) k p1)) p2) false ov iv = operate [ov, iv] (getItem ov iv) := by intro _ _; rfl) :
    PE X (.Subscript e (.Slice lo none (some (.Constant (.int 2) k p1)) p2) pos) (tHalf K te tl) := by
  subst hK
  refine ⟨fun pins s σ H Q I h => ?_⟩
  refine Subscript_ (thn (he.run pins s σ H _ I h) fun v s1 ⟨x, H1, I1, r1, q1⟩ => ?_)
  have hst : PO X (some (.Constant (.int 2) k p1)) (tPart (tC (.int 2))) := po_some pe_int
  refine wpAny_Slice (thn (hl.run pins s1 σ H1 _ I1 q1) fun vl s2 ⟨l, H2, I2, pl, q2⟩ => ?_)
  refine thn (po_none.run pins s2 σ H2 (fun o H3 => o = none ∧ H3 = H2) I2 ⟨rfl, rfl⟩) fun vu s3 ⟨u, H3, I3, pu, eu, e3⟩ => ?_
  subst eu e3
  refine thn (hst.run pins s3 σ H3 (fun o H4 => o = some 2 ∧ H4 = H3) I3 ⟨2, rfl, rfl, rfl⟩) fun vs s4 ⟨o, H4, I4, ps, eo, e4⟩ => ?_
  subst eo e4
  obtain ⟨a, xs, j, ex, hx, hj, q⟩ := q2
  subst ex
  cases r1
  have I5 : Inv X pins σ H4 { s4 with heap := s4.heap.push { cls := .type "slice", data := .fields #[vl, vu, vs] } } := I4.kept (t' := s4.toks) fun b ob q => Heap.get?_push_of_some _ q
  obtain ⟨its, r, ht, hz⟩ := I5.tuple hx
  have hlen := r.length
  have evu : vu = .none := by cases pu; rfl
  subst evu
  refine tail_any (ops := [.ref a, .ref s4.heap.objs.size]) ht.typeIs (PyProof.Rows.slot_tuple_getitem.lookup) ?_ (hs _ _)
  refine getItem_half ht (Heap.IsSliceOf.new _ vl .none vs) pl ps (k := j) (by rw [← hlen]; exact hj) (by omega) ?_
  have new : Vals (evens (xs.drop j)) (evens (its.drop j)) := vals_evens (Vals.drop j r)
  refine ⟨.ref _, _, I5.laid (t' := s4.toks) (o := .tup (evens (xs.drop j))) (fun b ob q => Heap.get?_push_of_some _ q) (Nat.le_refl _) ?_, rfl, q _ (I5.hok.fresh (Nat.le_refl _))⟩
  refine ⟨?_, _, new, ⟨_, Heap.get?_push_size _ rfl, rfl, _, rfl⟩⟩
  have h1 := (evens_sub (xs.drop j)).length_le
  rw [List.length_drop] at h1
  omega
end Kw
/-! a tuple times an int, 1 among them -/
namespace Kw
open PySem PySem.Spec PyProof.Rows L2 RZ StX SrtO
theorem tuple_mul1 (l : Addr) (items : Array Value) (n : Nat) (dd : Option Addr) (sl : Array (Option Value)) (u : Tok) :
    Meets (Builtin.«tuple.__mul__» ⟨[.ref l, .int 1 u], []⟩) (fun _ R s => s.heap.get? l = some { cls := .type "tuple", dict := dd, data := .seq items n, slots := sl } ∧ R (.ok (.ret (Value.ref l))) s) :=
  .of_wp fun prog w A R s h => by
    obtain ⟨hp, g, d, tk, os⟩ := s
    obtain ⟨hl, h⟩ := h
    have f1 := AutoSeq1.idx_int
    wp_walk using wpAny_loadPart' hl
    exact ⟨_, rfl, h⟩
def rRepA (K : PySem.W.Frag) : R2 := fun x y H Q => ∃ l k xs, x = .ref l ∧ y = .int k ∧ SqT K H l xs ∧ xs ≠ [] ∧ 1 ≤ k ∧ k ≤ 1000 ∧ xs.length ≤ 1000 ∧
  ∀ (p : Addr) (H' : Hp), Same H H' → SqT K H' p (List.replicate k.toNat xs).flatten → Q (.ref p) H'
theorem op_repA {X : Cx} {K : PySem.W.Frag} (hK : X.K = K := by rfl) : OpR X (binaryOp .Mult) (rRepA K) := by
  subst hK
  intro pins s σ H x y v u Q I rx ry h
  obtain ⟨l, k, xs, ex, ey, hT, hne, h1, h2, hz, q⟩ := h
  by_cases c : k = 1
  · subst ex ey c
    cases rx
    obtain ⟨t, rfl⟩ := ry
    obtain ⟨its, r, ⟨⟨cls, dd, data, sl⟩, ho, hc, n, hd⟩, hs⟩ := I.tuple hT
    simp only at hc hd
    subst hc hd
    refine wpAny_binaryOp_repeat_ref (T := "tuple") (U := "int") (by decide) ⟨_, ho, rfl⟩ (fun s' => typeIs_int s' 1 t) noFill_tuple_mul F.fills_int_mul F.slot_int_rmul repeat_tuple F.slot_int_index.lookup
      (call_meets F.slot_int_rmul (typeIs_int s 1 t) F.entry_int_rmul (F.args_int_rmul_2 _ _) (int_rmul_tuple 1 t l its.toArray n dd sl)
        ⟨ho, rfl, ⟨_, ho, rfl⟩, call_meets F.slot_tuple_mul ⟨_, ho, rfl⟩ F.entry_tuple_mul (F.args_tuple_mul_2 _ _) (tuple_mul1 l its.toArray n dd sl t) ⟨ho, ?_⟩⟩)
    refine ⟨.ref l, H, I, rfl, q l H (Same.refl H) ?_⟩
    have : (List.replicate (1 : Int).toNat xs).flatten = xs := by
      show (List.replicate 1 xs).flatten = xs
      simp [List.replicate_succ]
    rw [this]
    exact hT
  · refine op_repT pins s σ H x y v u Q I rx ry ⟨l, k, xs, ex, ey, hT, hne, by omega, h2, hz, fun p np => q p _ (same_new np _) (SqT.of upd_same)⟩
end Kw
namespace KL
open PySem PySem.Spec PyProof.Rows L2 RZ StX SrtO Kw KM
/-! ### the deck -/
abbrev kC : Key := Sum.inr ("cells" : Str)
abbrev kM : Key := Sum.inr ("mixed" : Str)
abbrev kN : Key := Sum.inr ("draws" : Str)
abbrev deckV (l : Addr) (m n : Int) : List (Key × V) := [(kC, .ref l), (kM, .int m), (kN, .int n)]
theorem get_C {l : Addr} {m n : Int} : valV (deckV l m n) kC = some (.ref l) := rfl
theorem get_M {l : Addr} {m n : Int} : valV (deckV l m n) kM = some (.int m) := rfl
theorem get_N {l : Addr} {m n : Int} : valV (deckV l m n) kN = some (.int n) := rfl
theorem put_N {l : Addr} {m n k : Int} : putK (deckV l m n) kN (.int k) = deckV l m k := rfl
structure DeckAt (H : Hp) (d l : Addr) : Prop where
  ex : ∃ (m n : Int) (cs : List Int), H d = some (.dK (deckV l m n)) ∧ H l = some (.lst (cs.map V.int)) ∧ cs.length ≤ 63
/-- all but the deck stays, and the deck is one again -/
structure Stp (d l : Addr) (H H' : Hp) : Prop where
  pre : DeckAt H d l
  post : DeckAt H' d l
  kp : ∀ b o, b ≠ d → b ≠ l → H b = some o → H' b = some o
theorem Stp.trans {d l : Addr} {H H1 H2 : Hp} (a : Stp d l H H1) (b : Stp d l H1 H2) : Stp d l H H2 := ⟨a.pre, b.post, fun c o h1 h2 e => b.kp c o h1 h2 (a.kp c o h1 h2 e)⟩
theorem DeckAt.ne {H : Hp} {d l : Addr} (h : DeckAt H d l) : d ≠ l := by
  obtain ⟨m, n, cs, h1, h2, _⟩ := h.ex
  exact ne_of h1 h2 (by intro z; cases z)
theorem DeckAt.same {H H' : Hp} {d l : Addr} (h : DeckAt H d l) (s : Same H H') : DeckAt H' d l := by
  obtain ⟨m, n, cs, h1, h2, h3⟩ := h.ex
  exact ⟨m, n, cs, s _ _ h1, s _ _ h2, h3⟩
theorem DeckAt.stp {H H' : Hp} {d l : Addr} (h : DeckAt H d l) (s : Same H H') : Stp d l H H' := ⟨h, h.same s, fun b o _ _ e => s b o e⟩
theorem DeckAt.refl {H : Hp} {d l : Addr} (h : DeckAt H d l) : Stp d l H H := h.stp (Same.refl H)
theorem Stp.rd_tup {d l : Addr} {H H' : Hp} (s : Stp d l H H') {a : Addr} {xs : List V} (h : Rd H a (.tup xs)) : Rd H' a (.tup xs) := by
  obtain ⟨m, n, cs, h1, h2, _⟩ := s.pre.ex
  rcases h with h | ⟨o, h⟩
  · exact .inl (s.kp _ _ (ne_of h h1 (by intro z; cases z)) (ne_of h h2 (by intro z; cases z)) h)
  · exact .inr ⟨o, s.kp _ _ (ne_of h h1 (by intro z; cases z)) (ne_of h h2 (by intro z; cases z)) h⟩
theorem Stp.sqt {K : PySem.W.Frag} {d l : Addr} {H H' : Hp} (s : Stp d l H H') {a : Addr} {xs : List V} (h : SqT K H a xs) : SqT K H' a xs := by
  rcases h with h | h
  · exact .inl (s.rd_tup h)
  · exact .inr h
theorem Stp.sqlO {K : PySem.W.Frag} {d l : Addr} {H H' : Hp} (s : Stp d l H H') {a : Addr} {xs : List V} (n1 : a ≠ l) (h : SqL K H a xs) : SqL K H' a xs := by
  obtain ⟨m, n, cs, h1, h2, _⟩ := s.pre.ex
  rcases h with (h | ⟨o, h⟩) | h
  · exact .inl (.inl (s.kp _ _ (ne_of h h1 (by intro z; cases z)) n1 h))
  · exact .inl (.inr ⟨o, s.kp _ _ (ne_of h h1 (by intro z; cases z)) n1 h⟩)
  · exact .inr h
theorem Stp.lst {d l : Addr} {H H' : Hp} (s : Stp d l H H') {a : Addr} {xs : List V} (n1 : a ≠ l) (h : H a = some (.lst xs)) : H' a = some (.lst xs) := by
  obtain ⟨m, n, cs, h1, h2, _⟩ := s.pre.ex
  exact s.kp _ _ (ne_of h h1 (by intro z; cases z)) n1 h
/-- what is new is not the deck's list -/
theorem DeckAt.off {H : Hp} {d l a : Addr} (h : DeckAt H d l) (n : H a = none) : a ≠ l := by
  obtain ⟨m, k, cs, h1, h2, _⟩ := h.ex
  exact (ne_of_none h2 n).symm
theorem DeckAt.offd {H : Hp} {d l a : Addr} (h : DeckAt H d l) (n : H a = none) : a ≠ d := by
  obtain ⟨m, k, cs, h1, h2, _⟩ := h.ex
  exact (ne_of_none h1 n).symm
theorem dk_C {H : Hp} {d l : Addr} {m n : Int} (e : H d = some (.dK (deckV l m n))) : DGet H d (.str "cells") (some (.ref l)) := get_C (l := l) (m := m) (n := n) ▸ DGet.k (k := kC) e
theorem dk_M {H : Hp} {d l : Addr} {m n : Int} (e : H d = some (.dK (deckV l m n))) : DGet H d (.str "mixed") (some (.int m)) := get_M (l := l) (m := m) (n := n) ▸ DGet.k (k := kM) e
theorem dk_N {H : Hp} {d l : Addr} {m n : Int} (e : H d = some (.dK (deckV l m n))) : DGet H d (.str "draws") (some (.int n)) := get_N (l := l) (m := m) (n := n) ▸ DGet.k (k := kN) e
theorem dp_N {H : Hp} {d l : Addr} {m n k : Int} (e : H d = some (.dK (deckV l m n))) : DPut H d (.str "draws") (.int k) (upd H d (.dK (deckV l m k))) := put_N (l := l) (m := m) (n := n) (k := k) ▸ DPut.k (k := kN) e (by show 3 < sizeLine; decide)
theorem cut_all {xs : List V} {n : Nat} (h : xs.length ≤ n) : cutV xs none (some (n : Int)) = xs := by
  unfold cutV
  rw [HT.sIx_none, show HT.sIx xs.length xs.length (some (n : Int)) = min n xs.length from HT.sIx_nat xs.length xs.length n]
  rw [List.drop_zero, Nat.min_eq_right h, Nat.sub_zero, List.take_length]
end KL
namespace KL
open PySem PySem.Spec PyProof.Rows L2 RZ StX SrtO Kw
/-! ### bounds -/
/-- below 2 ^ b in size -/
def Bd (b : Nat) (i : Int) : Prop := i.natAbs < 2 ^ b
theorem Bd.mono {a b : Nat} {i : Int} (h : Bd a i) (l : a ≤ b) : Bd b i := Nat.lt_of_lt_of_le h (Nat.pow_le_pow_right (by decide) l)
theorem Bd.mul {a b : Nat} {i j : Int} (h : Bd a i) (h' : Bd b j) : Bd (a + b) (i * j) := wide_lt h h'
theorem Bd.add {a : Nat} {i j : Int} (h : Bd a i) (h' : Bd a j) : Bd (a + 1) (i + j) := by
  unfold Bd at *
  have := Int.natAbs_add_le i j
  rw [Nat.pow_succ]
  omega
theorem Bd.sub {a : Nat} {i j : Int} (h : Bd a i) (h' : Bd a j) : Bd (a + 1) (i - j) := by
  unfold Bd at *
  rw [Nat.pow_succ]
  omega
theorem Bd.neg {a : Nat} {i : Int} (h : Bd a i) : Bd a (-i) := by
  unfold Bd at *
  omega
theorem Bd.le {a : Nat} {i j : Int} (h0 : 0 ≤ i) (h : i ≤ j) (h' : Bd a j) : Bd a i := by
  unfold Bd at *
  omega
theorem Bd.mulOk {a b : Nat} {i j : Int} (h : Bd a i) (h' : Bd b j) (l : a + b ≤ 90000 := by omega) : CMulW i j := by
  have q : ∀ {c : Nat} {z : Int}, Bd c z → Bd (c + 1) z := fun h => h.mono (Nat.le_succ _)
  exact wide_mul (q h) (q h') (by omega) (by omega) (by omega)
theorem Bd.divOk {b : Nat} {j : Int} (h0 : 0 < j) (h : Bd b j) (l : b ≤ 8000 := by omega) : ∀ i, CDivW i j := fun i =>
  wide_div h0 (h.mono (Nat.le_succ b)) (by omega) (by omega)
theorem ip_mulS {X : Cx} : PIp X .Mult (rI CMul fun i j => .int (i * j)) := by
  intro pins s σ H x y v u Q I rx ry h
  obtain ⟨i, j, rfl, rfl, hc, q⟩ := h
  obtain ⟨t, rfl⟩ := rx
  obtain ⟨t', rfl⟩ := ry
  exact imul_int ⟨.int _, H, I.tok _, ⟨_, rfl⟩, q⟩ hc.ok
theorem emodB (a : Int) {b : Int} (h : 0 < b) : 0 ≤ a % b ∧ a % b < b := ⟨Int.emod_nonneg _ (by omega), Int.emod_lt_of_pos _ h⟩
end KL
namespace PV
open PySem PySem.Spec PyProof.Rows L2 RZ StX SrtO Kw KL
/-! ### heaps without some places -/
def Mask (H : Hp) (ex : List Addr) : Hp := fun a => if a ∈ ex then none else H a
theorem mask_in {H : Hp} {ex : List Addr} {a : Addr} (h : a ∈ ex) : Mask H ex a = none := by unfold Mask; rw [if_pos h]
theorem mask_out {H : Hp} {ex : List Addr} {a : Addr} (h : a ∉ ex) : Mask H ex a = H a := by unfold Mask; rw [if_neg h]
theorem mask_some {H : Hp} {ex : List Addr} {a : Addr} {o : HO} (h : Mask H ex a = some o) : a ∉ ex ∧ H a = some o := by
  by_cases c : a ∈ ex
  · rw [mask_in c] at h; cases h
  · rw [mask_out c] at h; exact ⟨c, h⟩
theorem mask_le (H : Hp) (ex : List Addr) : Same (Mask H ex) H := fun _ _ h => (mask_some h).2
theorem mask_same {H H' : Hp} {ex ex' : List Addr} (h : ∀ a o, a ∉ ex → H a = some o → a ∉ ex' ∧ H' a = some o) : Same (Mask H ex) (Mask H' ex') := fun a o e => by
  obtain ⟨h1, h2⟩ := mask_some e
  obtain ⟨h3, h4⟩ := h a o h1 h2
  rw [mask_out h3]; exact h4
theorem mask_nil (H : Hp) : Mask H [] = H := by
  funext a
  exact mask_out List.not_mem_nil
/-! ### data stay where what they lie on stays -/
mutual
/-- v reads as d; its lists are tracked -/
inductive Dd (K : PySem.W.Frag) (H : Hp) : V → PyData → Prop
  | non : Dd K H .non .none
  | bl (b : Bool) : Dd K H (.bl b) (.bool b)
  | int (i : Int) : Dd K H (.int i) (.int i)
  | str (x : Str) : Dd K H (.str x) (.str x)
  | lst {a : Addr} {xs : List V} {ds : List PyData} : H a = some (.lst xs) → DdAll K H xs ds → Dd K H (.ref a) (.list ds)
  | tup {a : Addr} {xs : List V} {ds : List PyData} : SqT K H a xs → DdAll K H xs ds → Dd K H (.ref a) (.tuple ds)
inductive DdAll (K : PySem.W.Frag) (H : Hp) : List V → List PyData → Prop
  | nil : DdAll K H [] []
  | cons {v : V} {vs : List V} {d : PyData} {ds : List PyData} : Dd K H v d → DdAll K H vs ds → DdAll K H (v :: vs) (d :: ds)
end
mutual
theorem Dd.dp {K : PySem.W.Frag} {H : Hp} : ∀ {v : V} {d : PyData}, Dd K H v d → Dp K H v d
  | _, _, .non => .non
  | _, _, .bl b => .bl b
  | _, _, .int i => .int i
  | _, _, .str x => .str x
  | _, _, .lst h1 h2 => .lst (.of h1) (DdAll.dp h2)
  | _, _, .tup h1 h2 => .tup h1 (DdAll.dp h2)
theorem DdAll.dp {K : PySem.W.Frag} {H : Hp} : ∀ {v : List V} {d : List PyData}, DdAll K H v d → DpAll K H v d
  | _, _, .nil => .nil
  | _, _, .cons h1 h2 => .cons h1.dp h2.dp
end
mutual
theorem dpp_mono {K : PySem.W.Frag} {H H' : Hp} (s : Same H H') : ∀ {v : V} {d : PyData}, Dp K H v d → Dp K H' v d
  | _, _, .non => .non
  | _, _, .bl b => .bl b
  | _, _, .int i => .int i
  | _, _, .str x => .str x
  | _, _, .lst h1 h2 => .lst (s.seq h1) (dppa_mono s h2)
  | _, _, .tup h1 h2 => .tup (s.sqt h1) (dppa_mono s h2)
theorem dppa_mono {K : PySem.W.Frag} {H H' : Hp} (s : Same H H') : ∀ {v : List V} {d : List PyData}, DpAll K H v d → DpAll K H' v d
  | _, _, .nil => .nil
  | _, _, .cons h1 h2 => .cons (dpp_mono s h1) (dppa_mono s h2)
end
mutual
theorem dp_mono {K : PySem.W.Frag} {H H' : Hp} (s : Same H H') : ∀ {v : V} {d : PyData}, Dd K H v d → Dd K H' v d
  | _, _, .non => .non
  | _, _, .bl b => .bl b
  | _, _, .int i => .int i
  | _, _, .str x => .str x
  | _, _, .lst h1 h2 => .lst (s _ _ h1) (dpa_mono s h2)
  | _, _, .tup h1 h2 => .tup (s.sqt h1) (dpa_mono s h2)
theorem dpa_mono {K : PySem.W.Frag} {H H' : Hp} (s : Same H H') : ∀ {v : List V} {d : List PyData}, DdAll K H v d → DdAll K H' v d
  | _, _, .nil => .nil
  | _, _, .cons h1 h2 => .cons (dp_mono s h1) (dpa_mono s h2)
end
theorem dpa_len {K : PySem.W.Frag} {H : Hp} : ∀ {vs : List V} {ds : List PyData}, DdAll K H vs ds → vs.length = ds.length
  | _, _, .nil => rfl
  | _, _, .cons _ h => by rw [List.length_cons, List.length_cons, dpa_len h]
theorem dpa_at {K : PySem.W.Frag} {H : Hp} : ∀ {vs : List V} {ds : List PyData}, DdAll K H vs ds → ∀ {i : Nat} {d : PyData}, ds[i]? = some d → ∃ v, vs[i]? = some v ∧ Dd K H v d
  | _, _, .nil, i, d, e => by simp at e
  | _, _, .cons h1 h2, 0, d, e => by
    simp only [List.getElem?_cons_zero, Option.some.injEq] at e
    subst e
    exact ⟨_, rfl, h1⟩
  | _, _, .cons h1 h2, i + 1, d, e => by
    simp only [List.getElem?_cons_succ] at e
    obtain ⟨v, e', h⟩ := dpa_at h2 e
    exact ⟨v, by simpa using e', h⟩
theorem dpa_at' {K : PySem.W.Frag} {H : Hp} : ∀ {vs : List V} {ds : List PyData}, DdAll K H vs ds → ∀ {i : Nat} {v : V}, vs[i]? = some v → ∃ d, ds[i]? = some d ∧ Dd K H v d
  | _, _, .nil, i, d, e => by simp at e
  | _, _, .cons h1 h2, 0, d, e => by
    simp only [List.getElem?_cons_zero, Option.some.injEq] at e
    subst e
    exact ⟨_, rfl, h1⟩
  | _, _, .cons h1 h2, i + 1, d, e => by
    simp only [List.getElem?_cons_succ] at e
    obtain ⟨v, e', h⟩ := dpa_at' h2 e
    exact ⟨v, by simpa using e', h⟩
theorem dpa_append {K : PySem.W.Frag} {H : Hp} : ∀ {vs ws : List V} {ds es : List PyData}, DdAll K H vs ds → DdAll K H ws es → DdAll K H (vs ++ ws) (ds ++ es)
  | _, _, _, _, .nil, h => h
  | _, _, _, _, .cons h1 h2, h => .cons h1 (dpa_append h2 h)
theorem dpa_drop {K : PySem.W.Frag} {H : Hp} : ∀ {vs : List V} {ds : List PyData} (n : Nat), DdAll K H vs ds → DdAll K H (vs.drop n) (ds.drop n)
  | _, _, 0, h => h
  | _, _, n + 1, .nil => .nil
  | _, _, n + 1, .cons _ h2 => dpa_drop n h2
theorem dpa_take {K : PySem.W.Frag} {H : Hp} : ∀ {vs : List V} {ds : List PyData} (n : Nat), DdAll K H vs ds → DdAll K H (vs.take n) (ds.take n)
  | _, _, 0, _ => .nil
  | _, _, n + 1, .nil => .nil
  | _, _, n + 1, .cons h1 h2 => .cons h1 (dpa_take n h2)
theorem dpa_rev {K : PySem.W.Frag} {H : Hp} : ∀ {vs : List V} {ds : List PyData}, DdAll K H vs ds → DdAll K H vs.reverse ds.reverse
  | _, _, .nil => .nil
  | _, _, .cons h1 h2 => by
    rw [List.reverse_cons, List.reverse_cons]
    exact dpa_append (dpa_rev h2) (.cons h1 .nil)
theorem dpa_set {K : PySem.W.Frag} {H : Hp} {v : V} {d : PyData} (hv : Dd K H v d) : ∀ {vs : List V} {ds : List PyData} (n : Nat), DdAll K H vs ds → DdAll K H (vs.set n v) (ds.set n d)
  | _, _, _, .nil => .nil
  | _, _, 0, .cons _ h2 => .cons hv h2
  | _, _, n + 1, .cons h1 h2 => .cons h1 (dpa_set hv n h2)
theorem dpa_ints {K : PySem.W.Frag} {H : Hp} : ∀ (cs : List Int), DdAll K H (cs.map V.int) (cs.map PyData.int)
  | [] => .nil
  | c :: r => .cons (.int c) (dpa_ints r)
theorem dpa_ints_inv {K : PySem.W.Frag} {H : Hp} : ∀ {cs : List Int} {vs : List V}, DdAll K H vs (cs.map PyData.int) → vs = cs.map V.int
  | [], _, .nil => rfl
  | c :: r, _, .cons h1 h2 => by
    cases h1
    rw [dpa_ints_inv h2]
    rfl
theorem dpa_bls_inv {K : PySem.W.Frag} {H : Hp} : ∀ {cs : List Bool} {vs : List V}, DdAll K H vs (cs.map PyData.bool) → vs = cs.map V.bl
  | [], _, .nil => rfl
  | c :: r, _, .cons h1 h2 => by
    cases h1
    rw [dpa_bls_inv h2]
    rfl
/-! ### a def's run: what is fixed -/
structure Ctx where
  K : PySem.W.Frag
  w : World
  /-- the heap at the entry -/
  H0 : Hp
  /-- places that the caller reads otherwise -/
  ex0 : List Addr
  /-- the deck's places -/
  dk : List Addr
  /-- places that the def may change -/
  M : List Addr
  dok : Hp → Prop
  stab : ∀ H H' : Hp, (∀ a ∈ dk, ∀ o, H a = some o → H' a = some o) → dok H → dok H'
  dkE : ∀ a ∈ dk, a ∈ ex0
  dkM : ∀ a ∈ dk, a ∈ M
  ME : ∀ a ∈ M, a ∈ ex0
/-- all but the deck stays -/
def Grow (C : Ctx) (H H' : Hp) : Prop := ∀ a o, a ∉ C.dk → H a = some o → H' a = some o
/-- what is the def's own stays -/
def GrowM (C : Ctx) (H H' : Hp) : Prop := ∀ a o, a ∉ C.dk → ((a ∉ C.ex0 ∧ C.H0 a = none) ∨ a ∈ C.M) → H a = some o → H' a = some o
theorem Grow.m {C : Ctx} {H H' : Hp} (g : Grow C H H') : GrowM C H H' := fun a o n _ e => g a o n e
theorem Grow.refl {C : Ctx} (H : Hp) : Grow C H H := fun _ _ _ e => e
theorem Grow.trans {C : Ctx} {H H1 H2 : Hp} (a : Grow C H H1) (b : Grow C H1 H2) : Grow C H H2 := fun c o n e => b c o n (a c o n e)
theorem Grow.of {C : Ctx} {H H' : Hp} (s : Same H H') : Grow C H H' := fun a o _ e => s a o e
/-- a place of the def's own -/
def Mine (C : Ctx) (a : Addr) : Prop := a ∉ C.ex0 ∧ C.H0 a = none
/-- what a slot holds -/
inductive AV where
  | val (d : PyData)
  | lst (ds : List PyData)
  | dct (lk : Bool) (es : List (NK × PyData))
  | dlk (es : List (NK × PyData))
  | pdt (a : Addr) (es : List (NK × PyData))
  | deck
  | raw (v : V)
abbrev VEnv := List (Option AV)
def AV.mut : AV → Prop
  | .lst _ => True
  | .dct lk _ => lk = false
  | .pdt _ _ => True
  | _ => False
def AV.obj : AV → Prop
  | .lst _ => True
  | .dct _ _ => True
  | .dlk _ => True
  | .pdt _ _ => True
  | _ => False
theorem AV.mut_obj {x : AV} (h : x.mut) : x.obj := by cases x <;> first | exact h.elim | trivial
def EntAt (K : PySem.W.Frag) (B : Hp) (e : NK × Addr × V) (x : NK × PyData) : Prop := e.1 = x.1 ∧ KeyN K B e.1 e.2.1 ∧ Dd K B e.2.2 x.2
def AvAt (C : Ctx) (H : Hp) (ex : List Addr) (v : V) : AV → Prop
  | .val d => Dd C.K (Mask H ex) v d
  | .lst ds => ∃ a xs, v = .ref a ∧ a ∈ ex ∧ Mine C a ∧ H a = some (.lst xs) ∧ DdAll C.K (Mask H ex) xs ds
  | .dct lk es => ∃ a ks, v = .ref a ∧ a ∈ ex ∧ a ∉ C.dk ∧ (if lk = true then Rd H a (DicN C.w a ks) else H a = some (DicN C.w a ks) ∧ (Mine C a ∨ a ∈ C.M)) ∧ Paired (EntAt C.K (Mask H ex)) ks es
  | .dlk es => ∃ a ks o, v = .ref a ∧ a ∈ ex ∧ (a ∉ C.dk ∧ (Mine C a ∨ a ∈ C.M)) ∧ H a = some (.frz o (DicN C.w a ks)) ∧ Paired (EntAt C.K (Mask H ex)) ks es
  | .pdt a es => ∃ ks, v = .ref a ∧ a ∈ ex ∧ a ∉ C.dk ∧ (H a = some (DicN C.w a ks) ∧ a ∈ C.M) ∧ Paired (EntAt C.K (Mask H ex)) ks es
  | .deck => ∃ d l, v = .ref d ∧ C.dk = [d, l] ∧ C.dok = fun H => DeckAt H d l
  | .raw v' => v = v'
/-- no tuple -/
def NT (o : HO) : Prop := (∀ xs, o ≠ .tup xs) ∧ ∀ q xs, o ≠ .frz q (.tup xs)
structure Rel (C : Ctx) (σ : L2.St) (H : Hp) (ex : List Addr) (Γ : VEnv) : Prop where
  len : Γ.length = σ.length
  slot : ∀ (i : Nat) (x : AV), Γ[i]? = some (some x) → ∃ v, σ[i]? = some (some v) ∧ AvAt C H ex v x
  apart : ∀ (i j : Nat) (x y : AV) (a : Addr), i ≠ j → Γ[i]? = some (some x) → Γ[j]? = some (some y) → x.mut → y.obj → σ[i]? = some (some (.ref a)) → σ[j]? = some (some (.ref a)) → False
  exs : ∀ a ∈ C.ex0, a ∈ ex
  all : ∀ a ∈ ex, ∃ o, H a = some o ∧ NT o
  keep : ∀ a o, a ∉ C.M → C.H0 a = some o → H a = some o
  deck : C.dok H
/-- a value that reads as d; or the list of a slot that the def itself changes -/
def DB (C : Ctx) (H : Hp) (ex : List Addr) (v : V) (d : PyData) : Prop :=
  Dd C.K (Mask H ex) v d ∨ ∃ a xs ds, v = .ref a ∧ d = .list ds ∧ a ∈ ex ∧ Mine C a ∧ H a = some (.lst xs) ∧ DdAll C.K (Mask H ex) xs ds
section
variable {C : Ctx} {σ : L2.St} {H H' : Hp} {ex : List Addr} {Γ : VEnv}
theorem Rel.nodk (R : Rel C σ H ex Γ) {a : Addr} (h : a ∉ ex) : a ∉ C.dk := fun z => h (R.exs a (C.dkE a z))
theorem Grow.mask (R : Rel C σ H ex Γ) (g : Grow C H H') : Same (Mask H ex) (Mask H' ex) := mask_same fun a o n e => ⟨n, g a o (R.nodk n) e⟩
theorem ent_mono {K : PySem.W.Frag} {B B' : Hp} (s : Same B B') {e : NK × Addr × V} {x : NK × PyData} (h : EntAt K B e x) : EntAt K B' e x := ⟨h.1, ⟨dpp_mono s h.2.1.dp, h.2.1.le⟩, dp_mono s h.2.2⟩
theorem paired_mono {α β : Type} {F G : α → β → Prop} (h : ∀ a b, F a b → G a b) : ∀ {l : List α} {m : List β}, Paired F l m → Paired G l m
  | _, _, .nil => .nil
  | _, _, .cons r t => .cons (h _ _ r) (paired_mono h t)
theorem AvAt.grow {v : V} {x : AV} {ex' : List Addr} (hx : ∀ a ∈ ex, a ∈ ex') (hk : ∀ a ∈ C.dk, a ∈ C.ex0) (s : Same (Mask H ex) (Mask H' ex')) (g : Grow C H H') (h : AvAt C H ex v x) : AvAt C H' ex' v x := by
  cases x with
  | val d => exact dp_mono s h
  | lst ds =>
    obtain ⟨a, xs, h1, h2, h3, h4, h5⟩ := h
    exact ⟨a, xs, h1, hx a h2, h3, g _ _ (fun z => h3.1 (hk a z)) h4, dpa_mono s h5⟩
  | dct lk es =>
    obtain ⟨a, ks, h1, h2, h3, h4, h5⟩ := h
    refine ⟨a, ks, h1, hx a h2, h3, ?_, paired_mono (fun _ _ => ent_mono s) h5⟩
    cases lk with
    | true =>
      rw [if_pos rfl] at h4 ⊢
      rcases h4 with h4 | ⟨o, h4⟩
      · exact .inl (g _ _ h3 h4)
      · exact .inr ⟨o, g _ _ h3 h4⟩
    | false =>
      rw [if_neg Bool.false_ne_true] at h4 ⊢
      exact ⟨g _ _ h3 h4.1, h4.2⟩
  | dlk es =>
    obtain ⟨a, ks, o, h1, h2, h3, h4, h5⟩ := h
    exact ⟨a, ks, o, h1, hx a h2, h3, g _ _ h3.1 h4, paired_mono (fun _ _ => ent_mono s) h5⟩
  | pdt a es =>
    obtain ⟨ks, h1, h2, h3, h4, h5⟩ := h
    exact ⟨ks, h1, hx a h2, h3, ⟨g _ _ h3 h4.1, h4.2⟩, paired_mono (fun _ _ => ent_mono s) h5⟩
  | deck => exact h
  | raw v' => exact h
theorem Rel.grow (R : Rel C σ H ex Γ) (g : Grow C H H') (d : C.dok H') (hA : ∀ a ∈ C.dk, ∃ o, H' a = some o ∧ NT o) : Rel C σ H' ex Γ where
  len := R.len
  slot := fun i x e => by
    obtain ⟨v, e', h⟩ := R.slot i x e
    exact ⟨v, e', h.grow (fun _ z => z) C.dkE (g.mask R) g⟩
  apart := R.apart
  exs := R.exs
  all := fun a ha => by
    by_cases c : a ∈ C.dk
    · exact hA a c
    · obtain ⟨o, e, n⟩ := R.all a ha
      exact ⟨o, g a o c e, n⟩
  keep := fun a o n e => g a o (fun z => n (C.dkM a z)) (R.keep a o n e)
  deck := d
theorem Rel.same (R : Rel C σ H ex Γ) (s : Same H H') : Rel C σ H' ex Γ := R.grow (.of s) (C.stab H H' (fun a _ o e => s a o e) R.deck) fun a ha => by
  obtain ⟨o, e, n⟩ := R.all a (R.exs a (C.dkE a ha))
  exact ⟨o, s a o e, n⟩
theorem Rel.new (R : Rel C σ H ex Γ) {p : Addr} (n : H p = none) (o : HO) : Rel C σ (upd H p o) ex Γ := R.same (same_new n o)
theorem Rel.fresh (R : Rel C σ H ex Γ) {p : Addr} (n : H p = none) : p ∉ ex := fun z => by
  obtain ⟨o, e, _⟩ := R.all p z
  rw [n] at e; cases e
theorem Rel.tup (R : Rel C σ H ex Γ) {K : PySem.W.Frag} {a : Addr} {xs : List V} (h : SqT K H a xs) : SqT K (Mask H ex) a xs := by
  rcases h with (h | ⟨q, h⟩) | h
  · refine .inl (.inl ?_)
    rw [mask_out fun z => ?_]
    · exact h
    · obtain ⟨o, e, n⟩ := R.all a z
      rw [h] at e; cases e
      exact n.1 xs rfl
  · refine .inl (.inr ⟨q, ?_⟩)
    rw [mask_out fun z => ?_]
    · exact h
    · obtain ⟨o, e, n⟩ := R.all a z
      rw [h] at e; cases e
      exact n.2 q xs rfl
  · exact .inr h
/-! no lists in it -/
mutual
def noL : PyData → Bool
  | .list _ => false
  | .dict _ => false
  | .tuple ds => noLs ds
  | _ => true
def noLs : List PyData → Bool
  | [] => true
  | d :: r => noL d && noLs r
end
mutual
theorem Rel.free (R : Rel C σ H ex Γ) {K : PySem.W.Frag} : ∀ {v : V} {d : PyData}, noL d = true → Dp K H v d → Dd K (Mask H ex) v d
  | _, _, _, .non => .non
  | _, _, _, .bl b => .bl b
  | _, _, _, .int i => .int i
  | _, _, _, .str x => .str x
  | _, _, h, .lst _ _ => by unfold noL at h; cases h
  | _, _, h, .tup h1 h2 => .tup (R.tup h1) (R.frees (by unfold noL at h; exact h) h2)
theorem Rel.frees (R : Rel C σ H ex Γ) {K : PySem.W.Frag} : ∀ {v : List V} {d : List PyData}, noLs d = true → DpAll K H v d → DdAll K (Mask H ex) v d
  | _, _, _, .nil => .nil
  | _, _, h, .cons h1 h2 => by
    unfold noLs at h
    rw [Bool.and_eq_true] at h
    exact .cons (R.free h.1 h1) (R.frees h.2 h2)
end
theorem Rel.mine (R : Rel C σ H ex Γ) {p : Addr} (n : H p = none) : Mine C p := by
  refine ⟨fun z => R.fresh n (R.exs p z), ?_⟩
  cases e : C.H0 p with
  | none => rfl
  | some o =>
    have := R.keep p o (fun z => R.fresh n (R.exs p (C.ME p z))) e
    rw [n] at this; cases this
theorem mask_new {p : Addr} {o : HO} (n : p ∉ ex) : (Mask (upd H p o) ex) p = some o := by rw [mask_out n]; exact upd_same
theorem DB.full {v : V} {d : PyData} (h : DB C H ex v d) : Dd C.K H v d := by
  rcases h with h | ⟨a, xs, ds, rfl, rfl, _, _, h1, h2⟩
  · exact dp_mono (mask_le H ex) h
  · exact .lst h1 (dpa_mono (mask_le H ex) h2)
theorem DB.grow {v : V} {d : PyData} (R : Rel C σ H ex Γ) (g : Grow C H H') (h : DB C H ex v d) : DB C H' ex v d := by
  rcases h with h | ⟨a, xs, ds, e1, e2, e3, e4, h1, h2⟩
  · exact .inl (dp_mono (g.mask R) h)
  · exact .inr ⟨a, xs, ds, e1, e2, e3, e4, g _ _ (fun z => e4.1 (C.dkE a z)) h1, dpa_mono (g.mask R) h2⟩
/-- a list, with free items -/
theorem DB.list {v : V} {ds : List PyData} (h : DB C H ex v (.list ds)) : ∃ a xs, v = .ref a ∧ H a = some (.lst xs) ∧ DdAll C.K (Mask H ex) xs ds := by
  rcases h with h | ⟨a, xs, ds', e1, e2, e3, e4, h1, h2⟩
  · cases h with
    | lst h1 h2 => exact ⟨_, _, rfl, mask_le H ex _ _ h1, h2⟩
  · cases e2
    exact ⟨a, xs, e1, h1, h2⟩
theorem DB.tup {v : V} {ds : List PyData} (h : DB C H ex v (.tuple ds)) : ∃ a xs, v = .ref a ∧ SqT C.K H a xs ∧ DdAll C.K (Mask H ex) xs ds := by
  rcases h with h | ⟨a, xs, ds', e1, e2, e3, e4, h1, h2⟩
  · cases h with
    | tup h1 h2 => exact ⟨_, _, rfl, (mask_le H ex).sqt h1, h2⟩
  · cases e2
theorem DB.int {v : V} {i : Int} (h : DB C H ex v (.int i)) : v = .int i := by
  rcases h with h | ⟨a, xs, ds', e1, e2, e3, e4, h1, h2⟩
  · cases h; rfl
  · cases e2
theorem DB.bl {v : V} {i : Bool} (h : DB C H ex v (.bool i)) : v = .bl i := by
  rcases h with h | ⟨a, xs, ds', e1, e2, e3, e4, h1, h2⟩
  · cases h; rfl
  · cases e2
theorem DB.str {v : V} {i : Str} (h : DB C H ex v (.str i)) : v = .str i := by
  rcases h with h | ⟨a, xs, ds', e1, e2, e3, e4, h1, h2⟩
  · cases h; rfl
  · cases e2
theorem DB.non {v : V} (h : DB C H ex v .none) : v = .non := by
  rcases h with h | ⟨a, xs, ds', e1, e2, e3, e4, h1, h2⟩
  · cases h; rfl
  · cases e2
end
/-! ### readings without heaps -/
abbrev WE := VEnv → (PyData → Prop) → Prop
abbrev WT := VEnv → (Bool → Prop) → Prop
abbrev WA := VEnv → (List PyData → Prop) → Prop
/-- an expression whose value is free -/
def LE (K : PySem.W.Frag) (w : World) (t : TE) (p : WE) : Prop :=
  ∀ (C : Ctx) (σ : L2.St) (H : Hp) (ex : List Addr) (Γ : VEnv), C.K = K → C.w = w → Rel C σ H ex Γ → ∀ Q' : PyData → Prop, p Γ Q' → ∀ Q : VK,
    (∀ v d H', Rel C σ H' ex Γ → Grow C H H' → Dd C.K (Mask H' ex) v d → Q' d → Q v H') → t σ H Q
/-- one whose value may be a slot's own list -/
def LB (K : PySem.W.Frag) (w : World) (t : TE) (p : WE) : Prop :=
  ∀ (C : Ctx) (σ : L2.St) (H : Hp) (ex : List Addr) (Γ : VEnv), C.K = K → C.w = w → Rel C σ H ex Γ → ∀ Q' : PyData → Prop, p Γ Q' → ∀ Q : VK,
    (∀ v d H', Rel C σ H' ex Γ → Grow C H H' → DB C H' ex v d → Q' d → Q v H') → t σ H Q
/-- one that makes a new list -/
def LN (K : PySem.W.Frag) (w : World) (t : TE) (p : VEnv → (List PyData → Prop) → Prop) : Prop :=
  ∀ (C : Ctx) (σ : L2.St) (H : Hp) (ex : List Addr) (Γ : VEnv), C.K = K → C.w = w → Rel C σ H ex Γ → ∀ Q' : List PyData → Prop, p Γ Q' → ∀ Q : VK,
    (∀ a xs ds H', Rel C σ H' ex Γ → Grow C H H' → H a = none → H' a = some (.lst xs) → DdAll C.K (Mask H' (a :: ex)) xs ds → Q' ds → Q (.ref a) H') → t σ H Q
def LT (K : PySem.W.Frag) (w : World) (t : TT) (p : WT) : Prop :=
  ∀ (C : Ctx) (σ : L2.St) (H : Hp) (ex : List Addr) (Γ : VEnv), C.K = K → C.w = w → Rel C σ H ex Γ → ∀ Q' : Bool → Prop, p Γ Q' → ∀ Q : Bool → Hp → Prop,
    (∀ b H', Rel C σ H' ex Γ → Grow C H H' → Q' b → Q b H') → t σ H Q
/-- arguments: free values -/
def LA (K : PySem.W.Frag) (w : World) (t : TA) (p : WA) : Prop :=
  ∀ (C : Ctx) (σ : L2.St) (H : Hp) (ex : List Addr) (Γ : VEnv), C.K = K → C.w = w → Rel C σ H ex Γ → ∀ Q' : List PyData → Prop, p Γ Q' → ∀ Q : List V → Hp → Prop,
    (∀ vs ds H', Rel C σ H' ex Γ → Grow C H H' → DdAll C.K (Mask H' ex) vs ds → Q' ds → Q vs H') → t σ H Q
/-- arguments: as they come -/
def LAB (K : PySem.W.Frag) (w : World) (t : TA) (p : WA) : Prop :=
  ∀ (C : Ctx) (σ : L2.St) (H : Hp) (ex : List Addr) (Γ : VEnv), C.K = K → C.w = w → Rel C σ H ex Γ → ∀ Q' : List PyData → Prop, p Γ Q' → ∀ Q : List V → Hp → Prop,
    (∀ vs ds H', Rel C σ H' ex Γ → Grow C H H' → Paired (DB C H' ex) vs ds → Q' ds → Q vs H') → t σ H Q
structure QE (X : Cx) (e : Expr) (p : WE) : Prop where
  ex : ∃ t, PE X e t ∧ LE X.K X.w t p
structure QB (X : Cx) (e : Expr) (p : WE) : Prop where
  ex : ∃ t, PE X e t ∧ LB X.K X.w t p
structure QN (X : Cx) (e : Expr) (p : WA) : Prop where
  ex : ∃ t, PE X e t ∧ LN X.K X.w t p
structure QT (X : Cx) (e : Expr) (p : WT) : Prop where
  ex : ∃ t, PT X e t ∧ LT X.K X.w t p
structure QW (X : Cx) (e : Expr) (p : WT) : Prop where
  ex : ∃ t, PW X e t ∧ LT X.K X.w t p
structure QA (X : Cx) (es : List Expr) (p : WA) : Prop where
  ex : ∃ t, PA X es t ∧ LA X.K X.w t p
structure QAB (X : Cx) (es : List Expr) (p : WA) : Prop where
  ex : ∃ t, PA X es t ∧ LAB X.K X.w t p
def wL (p : WA) : WE := fun Γ Q => p Γ fun ds => Q (.list ds)
theorem LE.b {K : PySem.W.Frag} {w : World} {t : TE} {p : WE} (h : LE K w t p) : LB K w t p := fun C σ H ex Γ e1 e2 R Q' hp Q k =>
  h C σ H ex Γ e1 e2 R Q' hp Q fun v d H' R' g hd q => k v d H' R' g (.inl hd) q
theorem mask_unown {C : Ctx} {σ : L2.St} {H H' : Hp} {ex : List Addr} {Γ : VEnv} (a : Addr) (R : Rel C σ H ex Γ) (n : H a = none) : Same (Mask H' (a :: ex)) (Mask H' ex) :=
  mask_same fun b o nb e => ⟨fun z => nb (List.mem_cons_of_mem _ z), e⟩
theorem LN.e {K : PySem.W.Frag} {w : World} {t : TE} {p : WA} (h : LN K w t p) : LE K w t (wL p) := fun C σ H ex Γ e1 e2 R Q' hp Q k =>
  h C σ H ex Γ e1 e2 R (fun ds => Q' (.list ds)) hp Q fun a xs ds H' R' g n e hd q =>
    k (.ref a) (.list ds) H' R' g (.lst (by rw [mask_out (R.fresh n)]; exact e) (dpa_mono (mask_unown a R n) hd)) q
section
variable {X : Cx} {e0 : Expr} {p : WE} {pa : WA}
theorem QE.b (h : QE X e0 p) : QB X e0 p := let ⟨t, h1, h2⟩ := h.ex; ⟨t, h1, h2.b⟩
theorem QN.e (h : QN X e0 pa) : QE X e0 (wL pa) := let ⟨t, h1, h2⟩ := h.ex; ⟨t, h1, h2.e⟩
end
end PV
namespace PV
open PySem PySem.Spec PyProof.Rows L2 RZ StX SrtO Kw
/-! ### names, constants -/
def slotV (Γ : VEnv) (i : Nat) (Q : PyData → Prop) : Prop := match Γ[i]? with | some (some (.val d)) => Q d | _ => False
def slotB (Γ : VEnv) (i : Nat) (Q : PyData → Prop) : Prop := match Γ[i]? with | some (some (.val d)) => Q d | some (some (.lst ds)) => Q (.list ds) | _ => False
abbrev wVar (i : Nat) : WE := fun Γ Q => slotV Γ i Q
abbrev wVarB (i : Nat) : WE := fun Γ Q => slotB Γ i Q
abbrev wC (d : PyData) : WE := fun _ Q => Q d
theorem slotV_of {Γ : VEnv} {i : Nat} {Q : PyData → Prop} (h : slotV Γ i Q) : ∃ d, Γ[i]? = some (some (.val d)) ∧ Q d := by
  unfold slotV at h
  split at h
  · rename_i d e; exact ⟨d, e, h⟩
  · exact h.elim
theorem slotB_of {Γ : VEnv} {i : Nat} {Q : PyData → Prop} (h : slotB Γ i Q) : ∃ d, (Γ[i]? = some (some (.val d)) ∨ ∃ ds, d = .list ds ∧ Γ[i]? = some (some (.lst ds))) ∧ Q d := by
  unfold slotB at h
  split at h
  · rename_i d e; exact ⟨d, .inl e, h⟩
  · rename_i ds e; exact ⟨.list ds, .inr ⟨ds, rfl, e⟩, h⟩
  · exact h.elim
section
variable {K : PySem.W.Frag} {w : World}
theorem le_var (i : Nat) : LE K w (tVar i) (wVar i) := fun C σ H ex Γ e1 e2 R Q' hp Q k => by
  obtain ⟨d, e, q⟩ := slotV_of hp
  obtain ⟨v, ev, hd⟩ := R.slot i _ e
  exact ⟨v, ev, k v d H R (.refl H) hd q⟩
theorem lb_var (i : Nat) : LB K w (tVar i) (wVarB i) := fun C σ H ex Γ e1 e2 R Q' hp Q k => by
  obtain ⟨d, e | ⟨ds, rfl, e⟩, q⟩ := slotB_of hp
  · obtain ⟨v, ev, hd⟩ := R.slot i _ e
    exact ⟨v, ev, k v d H R (.refl H) (.inl hd) q⟩
  · obtain ⟨v, ev, a, xs, h1, h2, h3, h4, h5⟩ := R.slot i _ e
    exact ⟨v, ev, k v _ H R (.refl H) (.inr ⟨a, xs, ds, h1, rfl, h2, h3, h4, h5⟩) q⟩
theorem le_c {v : V} {d : PyData} (h : ∀ H : Hp, Dd K H v d) : LE K w (tC v) (wC d) := fun C σ H ex Γ e1 e2 R Q' hp Q k => by
  subst e1
  exact k v d H R (.refl H) (h _) hp
end
section
variable {X : Cx} {a b c e : Expr} {es : List Expr} {pos : Pos} {p q u : WE} {pa pb : WA} {K : PySem.W.Frag} {w : World}
theorem qv (i : Nat) {x : Str} {pos : Pos} (hN : X.N[i]? = some x := by rfl) (hv : Vis X.env.scope x := by first | exact Or.inl rfl | exact Or.inr (Or.inl rfl) | exact Or.inr (Or.inr rfl)) (hd : (x == ("__debug__" : Str)) = false := by decide)
    (hcd : (x == ("__classdict__" : Str)) = false := by decide) : QE X (.Name x pos) (wVar i) := ⟨_, pe_var hN hv hd hcd, le_var i⟩
theorem qvb (i : Nat) {x : Str} {pos : Pos} (hN : X.N[i]? = some x := by rfl) (hv : Vis X.env.scope x := by first | exact Or.inl rfl | exact Or.inr (Or.inl rfl) | exact Or.inr (Or.inr rfl)) (hd : (x == ("__debug__" : Str)) = false := by decide)
    (hcd : (x == ("__classdict__" : Str)) = false := by decide) : QB X (.Name x pos) (wVarB i) := ⟨_, pe_var hN hv hd hcd, lb_var i⟩
theorem qc_int {i : Int} {j pos} : QE X (.Constant (.int i) j pos) (wC (.int i)) := ⟨_, pe_int, le_c fun _ => .int i⟩
theorem qc_bl {i : Bool} {j pos} : QE X (.Constant (.bool i) j pos) (wC (.bool i)) := ⟨_, pe_bl, le_c fun _ => .bl i⟩
theorem qc_non {j pos} : QE X (.Constant .none j pos) (wC .none) := ⟨_, pe_non, le_c fun _ => .non⟩
theorem qc_str {x : Str} {j pos} : QE X (.Constant (.str x) j pos) (wC (.str x)) := ⟨_, pe_str, le_c fun _ => .str x⟩
/-- a name of the module: an int, a tuple of ints -/
theorem qg_int {x : Str} {i : Int} (h : PE X (.Name x pos) (tC (.int i))) : QE X (.Name x pos) (wC (.int i)) := ⟨_, h, le_c fun _ => .int i⟩
theorem qg_ints {x : Str} {t : Addr} {cs : List Int} (h : PE X (.Name x pos) (tC (.ref t))) (ht : ∀ H : Hp, SqT X.K H t (cs.map V.int)) : QE X (.Name x pos) (wC (.tuple (cs.map .int))) := ⟨_, h, le_c fun H => .tup (ht H) (dpa_ints cs)⟩
/-! ### operators -/
abbrev OpW := PyData → PyData → (PyData → Prop) → Prop
abbrev w2 (o : OpW) (p q : WE) : WE := fun Γ Q => p Γ fun x => q Γ fun y => o x y Q
def LO (K : PySem.W.Frag) (w : World) (r : R2) (o : OpW) : Prop :=
  ∀ (C : Ctx) (σ : L2.St) (H : Hp) (ex : List Addr) (Γ : VEnv) (x y : V) (dx dy : PyData), C.K = K → C.w = w → Rel C σ H ex Γ → DB C H ex x dx → DB C H ex y dy → ∀ Q' : PyData → Prop, o dx dy Q' → ∀ Q : VK,
    (∀ v d H', Rel C σ H' ex Γ → Grow C H H' → Dd C.K (Mask H' ex) v d → Q' d → Q v H') → r x y H Q
theorem le_op {r : R2} {o : OpW} {ta tb : TE} (lo : LO K w r o) (ha : LB K w ta p) (hb : LB K w tb q) : LE K w (tOp r ta tb) (w2 o p q) := fun C σ H ex Γ e1 e2 R Q' hp Q k =>
  ha C σ H ex Γ e1 e2 R _ hp _ fun x dx H1 R1 g1 d1 h1 => hb C σ H1 ex Γ e1 e2 R1 _ h1 _ fun y dy H2 R2 g2 d2 h2 =>
    lo C σ H2 ex Γ x y dx dy e1 e2 R2 (d1.grow R1 g2) d2 _ h2 _ fun v d H' R' g hd hq => k v d H' R' ((g1.trans g2).trans g) hd hq
theorem q_op {op : Operator} {r : R2} {o : OpW} (ho : OpR X (binaryOp op) r) (lo : LO X.K X.w r o) (ha : QB X a p) (hb : QB X b q) : QE X (.BinOp a op b pos) (w2 o p q) :=
  let ⟨_, a1, a2⟩ := ha.ex; let ⟨_, b1, b2⟩ := hb.ex; ⟨_, pe_op ho a1 b1, le_op lo a2 b2⟩
theorem q_cmp {op : CmpOp} {r : R2} {o : OpW} (ho : OpR X (compareOp op) r) (lo : LO X.K X.w r o) (ha : QB X a p) (hb : QB X b q) (hm : behindInMarks op b = false := by first | exact nobehind _ (by decide) (by decide) | rfl) : QE X (.Compare a [op] [b] pos) (w2 o p q) :=
  let ⟨_, a1, a2⟩ := ha.ex; let ⟨_, b1, b2⟩ := hb.ex; ⟨_, pe_cmpR ho a1 b1 hm, le_op lo a2 b2⟩
def rOr (r s : R2) : R2 := fun x y H Q => r x y H Q ∨ s x y H Q
theorem op_or {f : Value → Value → Sem Value} {r s : R2} (h1 : OpR X f r) (h2 : OpR X f s) : OpR X f (rOr r s) := fun pins s σ H x y v u Q I rx ry h => h.elim (h1 pins s σ H x y v u Q I rx ry) (h2 pins s σ H x y v u Q I rx ry)
theorem DB.rel_refl {C : Ctx} {H : Hp} : Grow C H H := .refl H
/-- ints in -/
def oI (C : Int → Int → Prop) (g : Int → Int → PyData) : OpW := fun x y Q => match x, y with | .int i, .int j => C i j ∧ Q (g i j) | _, _ => False
def oI0 (g : Int → Int → PyData) : OpW := fun x y Q => match x, y with | .int i, .int j => Q (g i j) | _, _ => False
theorem oI_of {C : Int → Int → Prop} {g : Int → Int → PyData} {x y : PyData} {Q : PyData → Prop} (h : oI C g x y Q) : ∃ i j, x = .int i ∧ y = .int j ∧ C i j ∧ Q (g i j) := by
  unfold oI at h
  split at h
  · exact ⟨_, _, rfl, rfl, h.1, h.2⟩
  · exact h.elim
theorem oI0_of {g : Int → Int → PyData} {x y : PyData} {Q : PyData → Prop} (h : oI0 g x y Q) : ∃ i j, x = .int i ∧ y = .int j ∧ Q (g i j) := by
  unfold oI0 at h
  split at h
  · exact ⟨_, _, rfl, rfl, h⟩
  · exact h.elim
theorem lo_int {C : Int → Int → Prop} {g : Int → Int → Int} : LO K w (rI C fun i j => .int (g i j)) (oI C fun i j => .int (g i j)) := fun D σ H ex Γ x y dx dy e1 e2 R hx hy Q' h Q k => by
  obtain ⟨i, j, rfl, rfl, c, q⟩ := oI_of h
  exact ⟨i, j, hx.int, hy.int, c, k _ _ H R (.refl H) (.int _) q⟩
theorem lo_int0 {g : Int → Int → Int} : LO K w (rI0 fun i j => .int (g i j)) (oI0 fun i j => .int (g i j)) := fun D σ H ex Γ x y dx dy e1 e2 R hx hy Q' h Q k => by
  obtain ⟨i, j, rfl, rfl, q⟩ := oI0_of h
  exact ⟨i, j, hx.int, hy.int, k _ _ H R (.refl H) (.int _) q⟩
theorem lo_bl0 {g : Int → Int → Bool} : LO K w (rI0 fun i j => .bl (g i j)) (oI0 fun i j => .bool (g i j)) := fun D σ H ex Γ x y dx dy e1 e2 R hx hy Q' h Q k => by
  obtain ⟨i, j, rfl, rfl, q⟩ := oI0_of h
  exact ⟨i, j, hx.int, hy.int, k _ _ H R (.refl H) (.bl _) q⟩
/-- + -/
def oAdd : OpW := fun x y Q => match x, y with
  | .int i, .int j => Q (.int (i + j))
  | .tuple s, .tuple t => s.length + t.length ≤ sizeLine ∧ Q (.tuple (s ++ t))
  | .list s, .list t => s.length + t.length ≤ sizeLine ∧ Q (.list (s ++ t))
  | .str s, .str t => s.length + t.length ≤ sizeLine ∧ Q (.str (s ++ t))
  | _, _ => False
abbrev rAdd (K : PySem.W.Frag) : R2 := rOr (rI0 fun i j => .int (i + j)) (rOr (rCatA K) (rOr rCat (fun x y H Q => ∃ i j, x = .str i ∧ y = .str j ∧ i.length + j.length ≤ sizeLine ∧ Q (.str (i ++ j)) H)))
theorem lo_add : LO K w (rAdd K) oAdd := fun D σ H ex Γ x y dx dy e1 e2 R hx hy Q' h Q k => by
  unfold oAdd at h
  split at h
  · exact .inl ⟨_, _, hx.int, hy.int, k _ _ H R (.refl H) (.int _) h⟩
  · obtain ⟨a1, xs, rfl, h1, h2⟩ := hx.tup
    obtain ⟨a2, ys, rfl, h3, h4⟩ := hy.tup
    subst e1
    refine .inr (.inl ⟨a1, a2, xs, ys, rfl, rfl, h1, h3, by rw [dpa_len h2, dpa_len h4]; exact h.1, fun z => ?_, fun _ z => ?_, fun _ _ p np => ?_⟩)
    · subst z
      cases h2
      refine k _ _ H R (.refl H) ?_ (by simpa using h.2)
      rcases hy with hy | ⟨_, _, _, _, z, _⟩
      · exact hy
      · cases z
    · subst z
      cases h4
      refine k _ _ H R (.refl H) ?_ (by simpa using h.2)
      rcases hx with hx | ⟨_, _, _, _, z, _⟩
      · exact hx
      · cases z
    · exact k _ _ _ (R.new np _) (.of (same_new np _)) (.tup (SqT.of (mask_new (R.fresh np))) (dpa_mono (Grow.mask R (.of (same_new np _))) (dpa_append h2 h4))) h.2
  · obtain ⟨a1, xs, rfl, h1, h2⟩ := hx.list
    obtain ⟨a2, ys, rfl, h3, h4⟩ := hy.list
    exact .inr (.inr (.inl ⟨a1, a2, xs, ys, rfl, rfl, h1, h3, by rw [dpa_len h2, dpa_len h4]; exact h.1, fun p np =>
      k _ _ _ (R.new np _) (.of (same_new np _)) (.lst (mask_new (R.fresh np)) (dpa_mono (Grow.mask R (.of (same_new np _))) (dpa_append h2 h4))) h.2⟩))
  · exact .inr (.inr (.inr ⟨_, _, hx.str, hy.str, h.1, k _ _ H R (.refl H) (.str _) h.2⟩))
  · exact h.elim
theorem q_add (ha : QB X a p) (hb : QB X b q) : QE X (.BinOp a .Add b pos) (w2 oAdd p q) := q_op (op_or op_add (op_or op_catA (op_or op_cat op_add_str))) lo_add ha hb
theorem q_sub (ha : QB X a p) (hb : QB X b q) : QE X (.BinOp a .Sub b pos) (w2 (oI0 fun i j => .int (i - j)) p q) := q_op op_sub lo_int0 ha hb
theorem q_fdiv (ha : QB X a p) (hb : QB X b q) : QE X (.BinOp a .FloorDiv b pos) (w2 (oI CDivW fun i j => .int (i / j)) p q) := q_op op_fdivW lo_int ha hb
theorem q_mod (ha : QB X a p) (hb : QB X b q) : QE X (.BinOp a .Mod b pos) (w2 (oI (fun _ j => 0 < j) fun i j => .int (i % j)) p q) := q_op op_mod lo_int ha hb
theorem q_pow (ha : QB X a p) (hb : QB X b q) : QE X (.BinOp a .Pow b pos) (w2 (oI CPow fun i j => .int (i ^ j.toNat)) p q) := q_op op_pow lo_int ha hb
/-- * : ints, a list or a tuple times an int -/
def oMul : OpW := fun x y Q => match x, y with
  | .int i, .int j => CMulW i j ∧ Q (.int (i * j))
  | .tuple s, .int k => s ≠ [] ∧ 1 ≤ k ∧ k ≤ 1000 ∧ s.length ≤ 1000 ∧ Q (.tuple (List.replicate k.toNat s).flatten)
  | .list s, .int k => -(2 ^ 63) ≤ k ∧ k < 2 ^ 63 ∧ s.length * k.toNat ≤ sizeLine ∧ Q (.list (List.replicate k.toNat s).flatten)
  | _, _ => False
theorem dpa_rep {H : Hp} {vs : List V} {ds : List PyData} (h : DdAll K H vs ds) : ∀ n : Nat, DdAll K H (List.replicate n vs).flatten (List.replicate n ds).flatten
  | 0 => .nil
  | n + 1 => by
    rw [List.replicate_succ, List.replicate_succ, List.flatten_cons, List.flatten_cons]
    exact dpa_append h (dpa_rep h n)
theorem lo_mul : LO K w (rOr (rI CMulW fun i j => .int (i * j)) (rOr (rRepA K) rRep)) oMul := fun D σ H ex Γ x y dx dy e1 e2 R hx hy Q' h Q k => by
  unfold oMul at h
  split at h
  · exact .inl ⟨_, _, hx.int, hy.int, h.1, k _ _ H R (.refl H) (.int _) h.2⟩
  · obtain ⟨a1, xs, rfl, h1, h2⟩ := hx.tup
    subst e1
    refine .inr (.inl ⟨a1, _, xs, rfl, hy.int, h1, fun z => h.1 (by subst z; cases h2; rfl), h.2.1, h.2.2.1, by rw [dpa_len h2]; exact h.2.2.2.1, fun p H' s t => ?_⟩)
    exact k _ _ _ (R.same s) (.of s) (.tup ((R.same s).tup t) (dpa_mono (Grow.mask R (.of s)) (dpa_rep h2 _))) h.2.2.2.2
  · obtain ⟨a1, xs, rfl, h1, h2⟩ := hx.list
    exact .inr (.inr ⟨a1, _, xs, rfl, hy.int, h1, h.1, h.2.1, by rw [dpa_len h2]; exact h.2.2.1, fun p np =>
      k _ _ _ (R.new np _) (.of (same_new np _)) (.lst (mask_new (R.fresh np)) (dpa_mono (Grow.mask R (.of (same_new np _))) (dpa_rep h2 _))) h.2.2.2⟩)
  · exact h.elim
theorem q_mul (ha : QB X a p) (hb : QB X b q) : QE X (.BinOp a .Mult b pos) (w2 oMul p q) := q_op (op_or op_mulW (op_or op_repA op_rep)) lo_mul ha hb
/-! ### comparisons -/
theorem q_lt (ha : QB X a p) (hb : QB X b q) : QE X (.Compare a [.Lt] [b] pos) (w2 (oI0 fun i j => .bool (decide (i < j))) p q) := q_cmp op_lt lo_bl0 ha hb
theorem q_le (ha : QB X a p) (hb : QB X b q) : QE X (.Compare a [.LtE] [b] pos) (w2 (oI0 fun i j => .bool (decide (i ≤ j))) p q) := q_cmp op_le lo_bl0 ha hb
theorem q_gt (ha : QB X a p) (hb : QB X b q) : QE X (.Compare a [.Gt] [b] pos) (w2 (oI0 fun i j => .bool (decide (j < i))) p q) := q_cmp op_gt lo_bl0 ha hb
theorem q_ge (ha : QB X a p) (hb : QB X b q) : QE X (.Compare a [.GtE] [b] pos) (w2 (oI0 fun i j => .bool (decide (j ≤ i))) p q) := q_cmp op_ge lo_bl0 ha hb
def oEqN (n : Bool) : OpW := fun x y Q => match x, y with
  | .int i, .int j => Q (.bool (if n = true then !decide (i = j) else decide (i = j)))
  | .str i, .str j => Q (.bool (if n = true then !decide (i = j) else decide (i = j)))
  | .bool i, .bool j => Q (.bool (if n = true then !decide (i = j) else decide (i = j)))
  | d, e => SeqAt.shaped d = true ∧ SeqAt.shaped e = true ∧ Q (.bool (if n = true then !PyData.eqv d e else PyData.eqv d e))
abbrev oEq : OpW := oEqN false
abbrev oNe : OpW := oEqN true
theorem dec_i {i j : Int} : decide (V.int i = V.int j) = decide (i = j) := decide_eq_decide.mpr ⟨V.int.inj, fun e => by rw [e]⟩
theorem dec_s {i j : Str} : decide (V.str i = V.str j) = decide (i = j) := decide_eq_decide.mpr ⟨V.str.inj, fun e => by rw [e]⟩
theorem dec_b {i j : Bool} : decide (V.bl i = V.bl j) = decide (i = j) := decide_eq_decide.mpr ⟨V.bl.inj, fun e => by rw [e]⟩
theorem lo_eq : LO K w (rOr rEq (rEqD K)) oEq := fun D σ H ex Γ x y dx dy e1 e2 R hx hy Q' h Q k => by
  unfold oEq oEqN at h
  split at h
  · rw [hx.int, hy.int]
    exact .inl ⟨rfl, k _ _ H R (.refl H) (.bl _) (by rw [dec_i]; exact h)⟩
  · rw [hx.str, hy.str]
    exact .inl ⟨rfl, k _ _ H R (.refl H) (.bl _) (by rw [dec_s]; exact h)⟩
  · rw [hx.bl, hy.bl]
    exact .inl ⟨rfl, k _ _ H R (.refl H) (.bl _) (by rw [dec_b]; exact h)⟩
  · subst e1
    exact .inr ⟨_, _, hx.full.dp, hy.full.dp, h.1, h.2.1, k _ _ H R (.refl H) (.bl _) h.2.2⟩
theorem lo_ne : LO K w (rOr rNe (rNeD K)) oNe := fun D σ H ex Γ x y dx dy e1 e2 R hx hy Q' h Q k => by
  unfold oNe oEqN at h
  split at h
  · rw [hx.int, hy.int]
    exact .inl ⟨rfl, k _ _ H R (.refl H) (.bl _) (by rw [dec_i]; exact h)⟩
  · rw [hx.str, hy.str]
    exact .inl ⟨rfl, k _ _ H R (.refl H) (.bl _) (by rw [dec_s]; exact h)⟩
  · rw [hx.bl, hy.bl]
    exact .inl ⟨rfl, k _ _ H R (.refl H) (.bl _) (by rw [dec_b]; exact h)⟩
  · subst e1
    exact .inr ⟨_, _, hx.full.dp, hy.full.dp, h.1, h.2.1, k _ _ H R (.refl H) (.bl _) h.2.2⟩
theorem q_eq (hu : X.A.units + 64 < cLine) (ha : QB X a p) (hb : QB X b q) : QE X (.Compare a [.Eq] [b] pos) (w2 oEq p q) := q_cmp (op_or op_eq (op_eqD hu)) lo_eq ha hb
theorem q_ne (hu : X.A.units + 64 < cLine) (ha : QB X a p) (hb : QB X b q) : QE X (.Compare a [.NotEq] [b] pos) (w2 oNe p q) := q_cmp (op_or op_ne (op_neD hu)) lo_ne ha hb
/-- an int in a list or a tuple of ints -/
def oInI (n : Bool) : OpW := fun x y Q => match x, y with
  | .int i, .list ds => ∃ ns : List Int, ds = ns.map .int ∧ Q (.bool (if n = true then !decide (i ∈ ns) else decide (i ∈ ns)))
  | .int i, .tuple ds => ∃ ns : List Int, ds = ns.map .int ∧ Q (.bool (if n = true then !decide (i ∈ ns) else decide (i ∈ ns)))
  | _, _ => False
theorem inV_ints (i : Int) (ns : List Int) : inV (.int i) (ns.map V.int) = decide (i ∈ ns) := by
  induction ns with
  | nil => rfl
  | cons n r ih =>
    show (eqV (.int n) (.int i) || inV (.int i) (r.map V.int)) = _
    rw [ih]
    by_cases c : n = i
    · subst c
      have : eqV (.int n) (.int n) = true := by simp [eqV]
      rw [this]
      simp
    · have : eqV (.int n) (.int i) = false := by simp [eqV, c]
      rw [this]
      simp [List.mem_cons, Ne.symm c]
theorem flat_ints (ns : List Int) : (ns.map V.int).all flatV = true := by
  rw [List.all_eq_true]
  intro x hx
  obtain ⟨n, _, rfl⟩ := List.mem_map.mp hx
  rfl
theorem lo_inI {n : Bool} : LO K w (rIn K n) (oInI n) := fun D σ H ex Γ x y dx dy e1 e2 R hx hy Q' h Q k => by
  unfold oInI at h
  subst e1
  split at h
  · obtain ⟨ns, rfl, h⟩ := h
    obtain ⟨a1, xs, rfl, h1, h2⟩ := hy.list
    obtain rfl := dpa_ints_inv h2
    rw [hx.int]
    refine ⟨a1, _, rfl, .inl (.of h1), rfl, flat_ints ns, ?_⟩
    rw [inV_ints]
    exact k _ _ H R (.refl H) (.bl _) h
  · obtain ⟨ns, rfl, h⟩ := h
    obtain ⟨a1, xs, rfl, h1, h2⟩ := hy.tup
    obtain rfl := dpa_ints_inv h2
    rw [hx.int]
    refine ⟨a1, _, rfl, .inr h1, rfl, flat_ints ns, ?_⟩
    rw [inV_ints]
    exact k _ _ H R (.refl H) (.bl _) h
  · exact h.elim
theorem q_in (ha : QB X a p) (hb : QB X b q) (hm : behindInMarks .In b = false := by rfl) : QE X (.Compare a [.In] [b] pos) (w2 (oInI false) p q) := q_cmp op_in_seq lo_inI ha hb hm
theorem q_notIn (ha : QB X a p) (hb : QB X b q) (hm : behindInMarks .NotIn b = false := by rfl) : QE X (.Compare a [.NotIn] [b] pos) (w2 (oInI true) p q) := q_cmp op_notIn_seq lo_inI ha hb hm
/-- is None, is True .. -/
def isN : PyData → Bool
  | .none => true
  | _ => false
def oIs (n : Bool) : OpW := fun x y Q => match x, y with
  | .bool i, .bool j => Q (.bool (if n = true then !decide (i = j) else decide (i = j)))
  | d, .none => Q (.bool (if n = true then !isN d else isN d))
  | _, _ => False
theorem DB.isN {C : Ctx} {H : Hp} {ex : List Addr} {v : V} {d : PyData} (h : DB C H ex v d) : decide (v = .non) = isN d := by
  rcases h with h | ⟨a, xs, ds, rfl, rfl, _⟩
  · cases h <;> rfl
  · rfl
theorem lo_is : LO K w (rOr rIsB (fun x y H Q => y = .non ∧ Q (.bl (decide (x = .non))) H)) (oIs false) := fun D σ H ex Γ x y dx dy e1 e2 R hx hy Q' h Q k => by
  unfold oIs at h
  split at h
  · exact .inl ⟨_, _, hx.bl, hy.bl, k _ _ H R (.refl H) (.bl _) h⟩
  · refine .inr ⟨hy.non, ?_⟩
    rw [hx.isN]
    exact k _ _ H R (.refl H) (.bl _) h
  · exact h.elim
theorem lo_isNot : LO K w (rOr rNotB (fun x y H Q => y = .non ∧ Q (.bl (!decide (x = .non))) H)) (oIs true) := fun D σ H ex Γ x y dx dy e1 e2 R hx hy Q' h Q k => by
  unfold oIs at h
  split at h
  · exact .inl ⟨_, _, hx.bl, hy.bl, k _ _ H R (.refl H) (.bl _) h⟩
  · refine .inr ⟨hy.non, ?_⟩
    rw [hx.isN]
    exact k _ _ H R (.refl H) (.bl _) h
  · exact h.elim
theorem q_is (ha : QB X a p) (hb : QB X b q) : QE X (.Compare a [.Is] [b] pos) (w2 (oIs false) p q) := q_cmp (op_or op_isBl op_isN) lo_is ha hb
theorem q_isNot (ha : QB X a p) (hb : QB X b q) : QE X (.Compare a [.IsNot] [b] pos) (w2 (oIs true) p q) := q_cmp (op_or op_notBl op_notN) lo_isNot ha hb
/-! ### tests -/
def bl1 (x : PyData) (Q : Bool → Prop) : Prop := match x with | .bool b => Q b | _ => False
abbrev wT (p : WE) : WT := fun Γ Q => p Γ fun x => bl1 x Q
theorem bl1_of {x : PyData} {Q : Bool → Prop} (h : bl1 x Q) : ∃ b, x = .bool b ∧ Q b := by
  unfold bl1 at h
  split at h
  · exact ⟨_, rfl, h⟩
  · exact h.elim
theorem lt_test {t : TE} (h : LE K w t p) : LT K w (tTest t) (wT p) := fun C σ H ex Γ e1 e2 R Q' hp Q k =>
  h C σ H ex Γ e1 e2 R _ hp _ fun v d H' R' g hd q => by
    obtain ⟨b, rfl, q⟩ := bl1_of q
    cases hd
    exact ⟨b, rfl, k b H' R' g q⟩
theorem lt_val {t : TE} (h : LE K w t p) : LT K w (tB t) (wT p) := lt_test h
theorem qt_cmp {op : CmpOp} {r : R2} {o : OpW} (ho : OpR X (compareOp op) r) (lo : LO X.K X.w r o) (ha : QB X a p) (hb : QB X b q) (hm : behindInMarks op b = false := by first | exact nobehind _ (by decide) (by decide) | rfl) : QT X (.Compare a [op] [b] pos) (wT (w2 o p q)) :=
  let ⟨_, a1, a2⟩ := ha.ex; let ⟨_, b1, b2⟩ := hb.ex; ⟨_, pt_cmpR ho a1 b1 hm, lt_test (le_op lo a2 b2)⟩
theorem qt_lt (ha : QB X a p) (hb : QB X b q) : QT X (.Compare a [.Lt] [b] pos) (wT (w2 (oI0 fun i j => .bool (decide (i < j))) p q)) := qt_cmp op_lt lo_bl0 ha hb
theorem qt_le (ha : QB X a p) (hb : QB X b q) : QT X (.Compare a [.LtE] [b] pos) (wT (w2 (oI0 fun i j => .bool (decide (i ≤ j))) p q)) := qt_cmp op_le lo_bl0 ha hb
theorem qt_gt (ha : QB X a p) (hb : QB X b q) : QT X (.Compare a [.Gt] [b] pos) (wT (w2 (oI0 fun i j => .bool (decide (j < i))) p q)) := qt_cmp op_gt lo_bl0 ha hb
theorem qt_ge (ha : QB X a p) (hb : QB X b q) : QT X (.Compare a [.GtE] [b] pos) (wT (w2 (oI0 fun i j => .bool (decide (j ≤ i))) p q)) := qt_cmp op_ge lo_bl0 ha hb
theorem qt_eq (hu : X.A.units + 64 < cLine) (ha : QB X a p) (hb : QB X b q) : QT X (.Compare a [.Eq] [b] pos) (wT (w2 oEq p q)) := qt_cmp (op_or op_eq (op_eqD hu)) lo_eq ha hb
theorem qt_ne (hu : X.A.units + 64 < cLine) (ha : QB X a p) (hb : QB X b q) : QT X (.Compare a [.NotEq] [b] pos) (wT (w2 oNe p q)) := qt_cmp (op_or op_ne (op_neD hu)) lo_ne ha hb
theorem qt_in (ha : QB X a p) (hb : QB X b q) (hm : behindInMarks .In b = false := by rfl) : QT X (.Compare a [.In] [b] pos) (wT (w2 (oInI false) p q)) := qt_cmp op_in_seq lo_inI ha hb hm
theorem qt_notIn (ha : QB X a p) (hb : QB X b q) (hm : behindInMarks .NotIn b = false := by rfl) : QT X (.Compare a [.NotIn] [b] pos) (wT (w2 (oInI true) p q)) := qt_cmp op_notIn_seq lo_inI ha hb hm
theorem qt_is (ha : QB X a p) (hb : QB X b q) : QT X (.Compare a [.Is] [b] pos) (wT (w2 (oIs false) p q)) := qt_cmp (op_or op_isBl op_isN) lo_is ha hb
theorem qt_isNot (ha : QB X a p) (hb : QB X b q) : QT X (.Compare a [.IsNot] [b] pos) (wT (w2 (oIs true) p q)) := qt_cmp (op_or op_notBl op_notN) lo_isNot ha hb
/-- a bool's expression as a test -/
theorem qt_val (h : QE X e p) (he : ∀ whole, isTrue e X.env whole = (do let v ← whole; standAt e.pos; holding [v] (truthy v)) := by intro _; rfl) : QT X e (wT p) := let ⟨_, h1, h2⟩ := h.ex; ⟨_, pt_val h1 he, lt_val h2⟩
variable {pt qt : WT} {rest : List Expr}
abbrev wNot (p : WT) : WT := fun Γ Q => p Γ fun b => Q (!b)
abbrev wAnd (p q : WT) : WT := fun Γ Q => p Γ fun b => if b = true then q Γ Q else Q false
abbrev wOr (p q : WT) : WT := fun Γ Q => p Γ fun b => if b = true then Q true else q Γ Q
theorem QW.t (h : QW X e pt) : QT X e pt := let ⟨_, h1, h2⟩ := h.ex; ⟨_, h1.pt, h2⟩
theorem qw_and1 (h : QT X a pt) : QW X (.BoolOp .And [a] pos) pt := let ⟨_, h1, h2⟩ := h.ex; ⟨_, pw_and1 h1, h2⟩
theorem qw_or1 (h : QT X a pt) : QW X (.BoolOp .Or [a] pos) pt := let ⟨_, h1, h2⟩ := h.ex; ⟨_, pw_or1 h1, h2⟩
theorem qw_and (ha : QT X a pt) (hb : QW X (.BoolOp .And (b :: rest) pos) qt) : QW X (.BoolOp .And (a :: b :: rest) pos) (wAnd pt qt) :=
  let ⟨_, a1, a2⟩ := ha.ex; let ⟨_, b1, b2⟩ := hb.ex; ⟨_, pw_and a1 b1, fun C σ H ex Γ e1 e2 R Q' hp Q k => a2 C σ H ex Γ e1 e2 R _ hp _ fun b H1 R1 g1 q1 => by
    cases b with
    | true => exact b2 C σ H1 ex Γ e1 e2 R1 _ q1 _ fun b H2 R2 g2 q2 => k b H2 R2 (g1.trans g2) q2
    | false => exact k false H1 R1 g1 q1⟩
theorem qw_or (ha : QT X a pt) (hb : QW X (.BoolOp .Or (b :: rest) pos) qt) : QW X (.BoolOp .Or (a :: b :: rest) pos) (wOr pt qt) :=
  let ⟨_, a1, a2⟩ := ha.ex; let ⟨_, b1, b2⟩ := hb.ex; ⟨_, pw_or a1 b1, fun C σ H ex Γ e1 e2 R Q' hp Q k => a2 C σ H ex Γ e1 e2 R _ hp _ fun b H1 R1 g1 q1 => by
    cases b with
    | false => exact b2 C σ H1 ex Γ e1 e2 R1 _ q1 _ fun b H2 R2 g2 q2 => k b H2 R2 (g1.trans g2) q2
    | true => exact k true H1 R1 g1 q1⟩
theorem qt_not (ha : QT X a pt) : QT X (.UnaryOp .Not a pos) (wNot pt) := let ⟨_, a1, a2⟩ := ha.ex; ⟨_, pt_not a1, fun C σ H ex Γ e1 e2 R Q' hp Q k => a2 C σ H ex Γ e1 e2 R _ hp _ fun b H1 R1 g1 q1 => k (!b) H1 R1 g1 q1⟩
/-- .. as values -/
abbrev wNotV (p : WE) : WE := fun Γ Q => p Γ fun x => bl1 x fun b => Q (.bool (!b))
abbrev wAndV (p q : WE) : WE := fun Γ Q => p Γ fun x => bl1 x fun b => if b = true then q Γ Q else Q (.bool false)
abbrev wOrV (p q : WE) : WE := fun Γ Q => p Γ fun x => bl1 x fun b => if b = true then Q (.bool true) else q Γ Q
theorem q_one {op} (h : QE X a p) : QE X (.BoolOp op [a] pos) p := let ⟨_, h1, h2⟩ := h.ex; ⟨_, pe_one h1, h2⟩
theorem q_and (ha : QE X a p) (hb : QE X (.BoolOp .And (b :: rest) pos) q) : QE X (.BoolOp .And (a :: b :: rest) pos) (wAndV p q) :=
  let ⟨_, a1, a2⟩ := ha.ex; let ⟨_, b1, b2⟩ := hb.ex; ⟨_, pe_and a1 b1, fun C σ H ex Γ e1 e2 R Q' hp Q k => a2 C σ H ex Γ e1 e2 R _ hp _ fun v d H1 R1 g1 hd q1 => by
    obtain ⟨b, rfl, q1⟩ := bl1_of q1
    cases hd
    refine ⟨b, rfl, ?_⟩
    cases b with
    | true => exact b2 C σ H1 ex Γ e1 e2 R1 _ q1 _ fun v d H2 R2 g2 hd q2 => k v d H2 R2 (g1.trans g2) hd q2
    | false => exact k _ _ H1 R1 g1 (.bl false) q1⟩
theorem q_or (ha : QE X a p) (hb : QE X (.BoolOp .Or (b :: rest) pos) q) : QE X (.BoolOp .Or (a :: b :: rest) pos) (wOrV p q) :=
  let ⟨_, a1, a2⟩ := ha.ex; let ⟨_, b1, b2⟩ := hb.ex; ⟨_, pe_or a1 b1, fun C σ H ex Γ e1 e2 R Q' hp Q k => a2 C σ H ex Γ e1 e2 R _ hp _ fun v d H1 R1 g1 hd q1 => by
    obtain ⟨b, rfl, q1⟩ := bl1_of q1
    cases hd
    refine ⟨b, rfl, ?_⟩
    cases b with
    | false => exact b2 C σ H1 ex Γ e1 e2 R1 _ q1 _ fun v d H2 R2 g2 hd q2 => k v d H2 R2 (g1.trans g2) hd q2
    | true => exact k _ _ H1 R1 g1 (.bl true) q1⟩
theorem q_not (ha : QE X a p) : QE X (.UnaryOp .Not a pos) (wNotV p) := let ⟨_, a1, a2⟩ := ha.ex; ⟨_, pe_not a1, fun C σ H ex Γ e1 e2 R Q' hp Q k => a2 C σ H ex Γ e1 e2 R _ hp _ fun v d H1 R1 g1 hd q1 => by
    obtain ⟨b, rfl, q1⟩ := bl1_of q1
    cases hd
    exact ⟨b, rfl, k _ _ H1 R1 g1 (.bl _) q1⟩⟩
abbrev wIf (c : WT) (p q : WE) : WE := fun Γ Q => c Γ fun b => if b = true then p Γ Q else q Γ Q
theorem q_if (hc : QT X c pt) (ha : QE X a p) (hb : QE X b q) : QE X (.IfExp c a b pos) (wIf pt p q) :=
  let ⟨_, c1, c2⟩ := hc.ex; let ⟨_, a1, a2⟩ := ha.ex; let ⟨_, b1, b2⟩ := hb.ex; ⟨_, pe_ifExp c1 a1 b1, fun C σ H ex Γ e1 e2 R Q' hp Q k => c2 C σ H ex Γ e1 e2 R _ hp _ fun b H1 R1 g1 q1 => by
    cases b with
    | true => exact a2 C σ H1 ex Γ e1 e2 R1 _ q1 _ fun v d H2 R2 g2 hd q2 => k v d H2 R2 (g1.trans g2) hd q2
    | false => exact b2 C σ H1 ex Γ e1 e2 R1 _ q1 _ fun v d H2 R2 g2 hd q2 => k v d H2 R2 (g1.trans g2) hd q2⟩
/-- - e -/
def int1 (x : PyData) (Q : Int → Prop) : Prop := match x with | .int i => Q i | _ => False
theorem int1_of {x : PyData} {Q : Int → Prop} (h : int1 x Q) : ∃ b, x = .int b ∧ Q b := by
  unfold int1 at h
  split at h
  · exact ⟨_, rfl, h⟩
  · exact h.elim
abbrev wNeg (p : WE) : WE := fun Γ Q => p Γ fun x => int1 x fun i => Q (.int (-i))
theorem q_neg (ha : QE X a p) : QE X (.UnaryOp .USub a pos) (wNeg p) := let ⟨_, a1, a2⟩ := ha.ex; ⟨_, pe_un un_neg a1, fun C σ H ex Γ e1 e2 R Q' hp Q k => a2 C σ H ex Γ e1 e2 R _ hp _ fun v d H1 R1 g1 hd q1 => by
    obtain ⟨b, rfl, q1⟩ := int1_of q1
    cases hd
    exact ⟨b, rfl, k _ _ H1 R1 g1 (.int _) q1⟩⟩
/-- a op1 b op2 c, of ints -/
abbrev wChain (g g' : Int → Int → Bool) (p q u : WE) : WE := fun Γ Q => p Γ fun x => q Γ fun y => int1 x fun i => int1 y fun j => if g i j = true then u Γ fun z => int1 z fun k => Q (.bool (g' j k)) else Q (.bool false)
theorem le_chain {g g' : Int → Int → Bool} {ta tb tc : TE} (ha : LB K w ta p) (hb : LB K w tb q) (hc : LB K w tc u) : LE K w (tChain (rI0 fun i j => .bl (g i j)) (rI0 fun i j => .bl (g' i j)) ta tb tc) (wChain g g' p q u) := fun C σ H ex Γ e1 e2 R Q' hp Q k =>
  ha C σ H ex Γ e1 e2 R _ hp _ fun x dx H1 R1 g1 d1 h1 => hb C σ H1 ex Γ e1 e2 R1 _ h1 _ fun y dy H2 R2 g2 d2 h2 => by
    obtain ⟨i, rfl, h3⟩ := int1_of (x := dx) h2
    obtain ⟨j, rfl, h4⟩ := int1_of (x := dy) h3
    refine ⟨i, j, d1.int, d2.int, _, rfl, ?_⟩
    by_cases cc : g i j = true
    · rw [if_pos cc] at h4 ⊢
      refine hc C σ H2 ex Γ e1 e2 R2 _ h4 _ fun z dz H3 R3 g3 d3 h5 => ?_
      obtain ⟨l, rfl, h6⟩ := int1_of (x := dz) h5
      exact ⟨j, l, d2.int, d3.int, k _ _ H3 R3 ((g1.trans g2).trans g3) (.bl _) h6⟩
    · rw [if_neg cc] at h4 ⊢
      exact k _ _ H2 R2 (g1.trans g2) (.bl _) h4
theorem q_chain {op op' : CmpOp} {g g' : Int → Int → Bool} (ho : OpR X (compareOp op) (rI0 fun i j => .bl (g i j))) (ho' : OpR X (compareOp op') (rI0 fun i j => .bl (g' i j))) (ha : QB X a p) (hb : QB X b q) (hc : QB X c u) (hm : lastMarks [op, op'] [b, c] = false := by with_unfolding_all rfl) :
    QE X (.Compare a [op, op'] [b, c] pos) (wChain g g' p q u) := let ⟨_, a1, a2⟩ := ha.ex; let ⟨_, b1, b2⟩ := hb.ex; let ⟨_, c1, c2⟩ := hc.ex; ⟨_, pe_chain ho ho' a1 b1 c1 hm, le_chain a2 b2 c2⟩
theorem qt_chain {op op' : CmpOp} {g g' : Int → Int → Bool} (ho : OpR X (compareOp op) (rI0 fun i j => .bl (g i j))) (ho' : OpR X (compareOp op') (rI0 fun i j => .bl (g' i j))) (ha : QB X a p) (hb : QB X b q) (hc : QB X c u) (hm : lastMarks [op, op'] [b, c] = false := by with_unfolding_all rfl) :
    QT X (.Compare a [op, op'] [b, c] pos) (wT (wChain g g' p q u)) := let ⟨_, a1, a2⟩ := ha.ex; let ⟨_, b1, b2⟩ := hb.ex; let ⟨_, c1, c2⟩ := hc.ex; ⟨_, pt_chain ho ho' a1 b1 c1 hm, lt_test (le_chain a2 b2 c2)⟩
end
end PV
namespace PV
open PySem PySem.Spec PyProof.Rows L2 RZ StX SrtO Kw
/-! ### places and parts -/
def optW {α : Type} (o : Option α) (Q : α → Prop) : Prop := match o with | some d => Q d | none => False
theorem optW_of {α : Type} {o : Option α} {Q : α → Prop} (h : optW o Q) : ∃ d, o = some d ∧ Q d := by
  cases o with
  | none => exact h.elim
  | some d => exact ⟨d, rfl, h⟩
theorem dpa_atI {K : PySem.W.Frag} {H : Hp} {vs : List V} {ds : List PyData} (h : DdAll K H vs ds) {i : Int} {d : PyData} (e : atI ds i = some d) : ∃ v, atI vs i = some v ∧ Dd K H v d := by
  unfold atI at e ⊢
  rw [dpa_len h]
  cases q : ixN ds.length i with
  | none => rw [q] at e; cases e
  | some j =>
    rw [q] at e
    obtain ⟨v, h1, h2⟩ := dpa_at h (show ds[j]? = some d from e)
    exact ⟨v, h1, h2⟩
def oIx : OpW := fun x y Q => match x, y with
  | .tuple ds, .int i => optW (atI ds i) Q
  | .list ds, .int i => optW (atI ds i) Q
  | _, _ => False
def cutG {α : Type} (xs : List α) (lo hi : Option Int) : List α := (xs.drop (HT.sIx xs.length 0 lo)).take (HT.sIx xs.length xs.length hi - HT.sIx xs.length 0 lo)
theorem dpa_cut {K : PySem.W.Frag} {H : Hp} {vs : List V} {ds : List PyData} (h : DdAll K H vs ds) (lo hi : Option Int) : DdAll K H (cutV vs lo hi) (cutG ds lo hi) := by
  unfold cutV cutG
  rw [dpa_len h]
  exact dpa_take _ (dpa_drop _ h)
theorem cut_all {α : Type} (ds : List α) {lo hi : Option Int} (h : HT.sIx ds.length 0 lo = 0 ∧ HT.sIx ds.length ds.length hi = ds.length) : cutG ds lo hi = ds := by
  unfold cutG
  rw [h.1, h.2]
  simp
abbrev WO := VEnv → (Option Int → Prop) → Prop
def oSl : PyData → Option Int → Option Int → (PyData → Prop) → Prop := fun x lo hi Q => match x with
  | .tuple ds => Q (.tuple (cutG ds lo hi))
  | .list ds => Q (.list (cutG ds lo hi))
  | _ => False
section
variable {K : PySem.W.Frag} {w : World}
theorem DB.free {C : Ctx} {σ : L2.St} {H : Hp} {ex : List Addr} {Γ : VEnv} (R : Rel C σ H ex Γ) {v : V} {d : PyData} (n : noL d = true) (h : DB C H ex v d) : Dd C.K (Mask H ex) v d := R.free n h.full.dp
theorem lo_ix : LO K w (rOr (rIxT K) (rIxL K)) oIx := fun D σ H ex Γ x y dx dy e1 e2 R hx hy Q' h Q k => by
  subst e1
  unfold oIx at h
  split at h
  · obtain ⟨a1, xs, rfl, h1, h2⟩ := hx.tup
    obtain ⟨d, e, q⟩ := optW_of h
    obtain ⟨v, ev, hv⟩ := dpa_atI h2 e
    exact .inl ⟨a1, xs, _, v, rfl, hy.int, h1, ev, k v d H R (.refl H) hv q⟩
  · obtain ⟨a1, xs, rfl, h1, h2⟩ := hx.list
    obtain ⟨d, e, q⟩ := optW_of h
    obtain ⟨v, ev, hv⟩ := dpa_atI h2 e
    exact .inr ⟨a1, xs, _, v, rfl, hy.int, .of h1, ev, k v d H R (.refl H) hv q⟩
  · exact h.elim
def LP (K : PySem.W.Frag) (w : World) (t : TO) (p : WO) : Prop :=
  ∀ (C : Ctx) (σ : L2.St) (H : Hp) (ex : List Addr) (Γ : VEnv), C.K = K → C.w = w → Rel C σ H ex Γ → ∀ Q' : Option Int → Prop, p Γ Q' → ∀ Q : Option Int → Hp → Prop,
    (∀ b H', Rel C σ H' ex Γ → Grow C H H' → Q' b → Q b H') → t σ H Q
def rSlOr (r s : V → Option Int → Option Int → Hp → VK → Prop) : V → Option Int → Option Int → Hp → VK → Prop := fun x lo hi H Q => r x lo hi H Q ∨ s x lo hi H Q
end
structure QO (X : Cx) (e : Option Expr) (p : WO) : Prop where
  ex : ∃ t, PO X e t ∧ LP X.K X.w t p
section
variable {X : Cx} {a b c e : Expr} {lo hi : Option Expr} {es : List Expr} {p2 pos : Pos} {p q u : WE} {pa pb : WA} {pl ph : WO} {K : PySem.W.Frag} {w : World}
theorem ix_or {r s : R2} (h1 : IxR X r) (h2 : IxR X s) : IxR X (rOr r s) := fun value slice pins st σ H x y v u Q I rx ry h z => h.elim (fun h => h1 value slice pins st σ H x y v u Q I rx ry h z) (fun h => h2 value slice pins st σ H x y v u Q I rx ry h z)
theorem q_ix (ha : QB X a p) (hb : QB X b q) (hs : PlainIx b := by exact fun _ _ => rfl) : QE X (.Subscript a b pos) (w2 oIx p q) :=
  let ⟨_, a1, a2⟩ := ha.ex; let ⟨_, b1, b2⟩ := hb.ex; ⟨_, pe_ix (ix_or ix_tup ix_list) a1 b1 hs, le_op lo_ix a2 b2⟩
abbrev wNo : WO := fun _ Q => Q none
abbrev wPart (p : WE) : WO := fun Γ Q => p Γ fun x => int1 x fun i => Q (some i)
theorem qo_none : QO X none wNo := ⟨_, po_none, fun C σ H ex Γ e1 e2 R Q' hp Q k => k none H R (.refl H) hp⟩
theorem qo_some (h : QE X a p) : QO X (some a) (wPart p) := let ⟨_, h1, h2⟩ := h.ex; ⟨_, po_some h1, fun C σ H ex Γ e1 e2 R Q' hp Q k => h2 C σ H ex Γ e1 e2 R _ hp _ fun v d H' R' g hd hq => by
  obtain ⟨i, rfl, hq⟩ := int1_of (x := d) hq
  cases hd
  exact ⟨i, rfl, k _ H' R' g hq⟩⟩
theorem sl_or {r s : V → Option Int → Option Int → Hp → VK → Prop} (h1 : SlR X r) (h2 : SlR X s) : SlR X (rSlOr r s) := fun pins st σ H x v vl vu lo hi sl Q I rx hs pl pu h => h.elim (fun h => h1 pins st σ H x v vl vu lo hi sl Q I rx hs pl pu h) (fun h => h2 pins st σ H x v vl vu lo hi sl Q I rx hs pl pu h)
abbrev wSl (p : WE) (l h : WO) : WE := fun Γ Q => p Γ fun x => l Γ fun lo => h Γ fun hi => oSl x lo hi Q
theorem q_slice (ha : QB X a p) (hl : QO X lo pl) (hh : QO X hi ph) : QE X (.Subscript a (.Slice lo hi none p2) pos) (wSl p pl ph) :=
  let ⟨_, a1, a2⟩ := ha.ex; let ⟨_, l1, l2⟩ := hl.ex; let ⟨_, h1, h2⟩ := hh.ex; ⟨_, pe_slice (sl_or sl_tupA sl_list) a1 l1 h1, fun C σ H ex Γ e1 e2 R Q' hp Q k =>
    a2 C σ H ex Γ e1 e2 R _ hp _ fun x dx H1 R1 g1 d1 q1 => l2 C σ H1 ex Γ e1 e2 R1 _ q1 _ fun l H2 R2 g2 q2 => h2 C σ H2 ex Γ e1 e2 R2 _ q2 _ fun h H3 R3 g3 q3 => by
      have d3 := (d1.grow R1 g2).grow R2 g3
      have g := (g1.trans g2).trans g3
      unfold oSl at q3
      split at q3
      · obtain ⟨a1, xs, rfl, h1, h2⟩ := d3.tup
        rw [← e1]
        refine .inl ⟨a1, xs, rfl, h1, fun z => ?_, fun z p np => ?_⟩
        · rw [dpa_len h2] at z
          rw [cut_all _ z] at q3
          exact k _ _ H3 R3 g (.tup (R3.tup h1) h2) q3
        · exact k _ _ _ (R3.new np _) (g.trans (.of (same_new np _))) (.tup (SqT.of (mask_new (R3.fresh np))) (dpa_mono (Grow.mask R3 (.of (same_new np _))) (dpa_cut h2 _ _))) q3
      · obtain ⟨a1, xs, rfl, h1, h2⟩ := d3.list
        exact .inr ⟨a1, xs, rfl, .of h1, fun p np => k _ _ _ (R3.new np _) (g.trans (.of (same_new np _))) (.lst (mask_new (R3.fresh np)) (dpa_mono (Grow.mask R3 (.of (same_new np _))) (dpa_cut h2 _ _))) q3⟩
      · exact q3.elim⟩
/-! ### arguments, displays -/
abbrev wNil : WA := fun _ Q => Q []
abbrev wCons (p : WE) (r : WA) : WA := fun Γ Q => p Γ fun d => r Γ fun ds => Q (d :: ds)
/-- a known number of arguments -/
def LAn (K : PySem.W.Frag) (w : World) (n : Nat) (t : TA) (p : WA) : Prop :=
  ∀ (C : Ctx) (σ : L2.St) (H : Hp) (ex : List Addr) (Γ : VEnv), C.K = K → C.w = w → Rel C σ H ex Γ → ∀ Q' : List PyData → Prop, p Γ Q' → ∀ Q : List V → Hp → Prop,
    (∀ vs ds H', Rel C σ H' ex Γ → Grow C H H' → DdAll C.K (Mask H' ex) vs ds → ds.length = n → Q' ds → Q vs H') → t σ H Q
structure QL (X : Cx) (es : List Expr) (p : WA) : Prop where
  ex : ∃ t, PA X es t ∧ LAn X.K X.w es.length t p
theorem ql_nil : QL X [] wNil := ⟨_, pa_nil, fun C σ H ex Γ e1 e2 R Q' hp Q k => k [] [] H R (.refl H) .nil rfl hp⟩
theorem ql_cons (ha : QE X a p) (hr : QL X es pa) (hs : starEach (a :: es) X.env = (false, eval a X.env) :: starEach es X.env := by rfl) : QL X (a :: es) (wCons p pa) :=
  let ⟨_, a1, a2⟩ := ha.ex; let ⟨_, r1, r2⟩ := hr.ex; ⟨_, pa_cons a1 r1 hs, fun C σ H ex Γ e1 e2 R Q' hp Q k => a2 C σ H ex Γ e1 e2 R _ hp _ fun v d H1 R1 g1 d1 q1 =>
    r2 C σ H1 ex Γ e1 e2 R1 _ q1 _ fun vs ds H2 R2 g2 d2 l q2 => k _ _ H2 R2 (g1.trans g2) (.cons (dp_mono (g2.mask R1) d1) d2) (by rw [List.length_cons, List.length_cons, l]) q2⟩
theorem qa_nil : QA X [] wNil := ⟨_, pa_nil, fun C σ H ex Γ e1 e2 R Q' hp Q k => k [] [] H R (.refl H) .nil hp⟩
theorem qa_cons (ha : QE X a p) (hr : QA X es pa) (hs : starEach (a :: es) X.env = (false, eval a X.env) :: starEach es X.env := by rfl) : QA X (a :: es) (wCons p pa) :=
  let ⟨_, a1, a2⟩ := ha.ex; let ⟨_, r1, r2⟩ := hr.ex; ⟨_, pa_cons a1 r1 hs, fun C σ H ex Γ e1 e2 R Q' hp Q k => a2 C σ H ex Γ e1 e2 R _ hp _ fun v d H1 R1 g1 d1 q1 =>
    r2 C σ H1 ex Γ e1 e2 R1 _ q1 _ fun vs ds H2 R2 g2 d2 q2 => k _ _ H2 R2 (g1.trans g2) (.cons (dp_mono (g2.mask R1) d1) d2) q2⟩
def oStar : PyData → (List PyData → Prop) → Prop := fun x Q => match x with
  | .tuple ds => Q ds
  | .list ds => Q ds
  | _ => False
abbrev wStar (p : WE) (r : WA) : WA := fun Γ Q => p Γ fun x => oStar x fun zs => r Γ fun ds => Q (zs ++ ds)
theorem qa_star {sp : Pos} (ha : QB X a p) (hr : QA X es pa) (hs : starEach (.Starred a sp :: es) X.env = (true, eval a X.env) :: starEach es X.env := by rfl) : QA X (.Starred a sp :: es) (wStar p pa) :=
  let ⟨_, a1, a2⟩ := ha.ex; let ⟨_, r1, r2⟩ := hr.ex; ⟨_, pa_star a1 r1 hs, fun C σ H ex Γ e1 e2 R Q' hp Q k => a2 C σ H ex Γ e1 e2 R _ hp _ fun v d H1 R1 g1 d1 q1 => by
    unfold oStar at q1
    split at q1
    · obtain ⟨a1, xs, rfl, h1, h2⟩ := d1.tup
      exact ⟨a1, xs, rfl, .inl (e1 ▸ h1), r2 C σ H1 ex Γ e1 e2 R1 _ q1 _ fun vs ds H2 R2 g2 d2 q2 => k _ _ H2 R2 (g1.trans g2) (dpa_append (dpa_mono (g2.mask R1) h2) d2) q2⟩
    · obtain ⟨a1, xs, rfl, h1, h2⟩ := d1.list
      exact ⟨a1, xs, rfl, .inr (.of h1), r2 C σ H1 ex Γ e1 e2 R1 _ q1 _ fun vs ds H2 R2 g2 d2 q2 => k _ _ H2 R2 (g1.trans g2) (dpa_append (dpa_mono (g2.mask R1) h2) d2) q2⟩
    · exact q1.elim⟩
theorem qab_nil : QAB X [] wNil := ⟨_, pa_nil, fun C σ H ex Γ e1 e2 R Q' hp Q k => k [] [] H R (.refl H) .nil hp⟩
theorem paired_grow {C : Ctx} {σ : L2.St} {H H' : Hp} {ex : List Addr} {Γ : VEnv} (R : Rel C σ H ex Γ) (g : Grow C H H') {vs : List V} {ds : List PyData} (h : Paired (DB C H ex) vs ds) : Paired (DB C H' ex) vs ds := paired_mono (fun _ _ z => z.grow R g) h
theorem qab_cons (ha : QB X a p) (hr : QAB X es pa) (hs : starEach (a :: es) X.env = (false, eval a X.env) :: starEach es X.env := by rfl) : QAB X (a :: es) (wCons p pa) :=
  let ⟨_, a1, a2⟩ := ha.ex; let ⟨_, r1, r2⟩ := hr.ex; ⟨_, pa_cons a1 r1 hs, fun C σ H ex Γ e1 e2 R Q' hp Q k => a2 C σ H ex Γ e1 e2 R _ hp _ fun v d H1 R1 g1 d1 q1 =>
    r2 C σ H1 ex Γ e1 e2 R1 _ q1 _ fun vs ds H2 R2 g2 d2 q2 => k _ _ H2 R2 (g1.trans g2) (.cons (d1.grow R1 g2) d2) q2⟩
abbrev wTup (p : WA) : WE := fun Γ Q => p Γ fun ds => ds.length ≤ sizeLine ∧ Q (.tuple ds)
abbrev wLst (p : WA) : WA := fun Γ Q => p Γ fun ds => ds.length ≤ sizeLine ∧ Q ds
theorem q_tup {x1} (h : QA X es pa) : QE X (.Tuple es x1 pos) (wTup pa) := let ⟨_, h1, h2⟩ := h.ex; ⟨_, pe_tup h1, fun C σ H ex Γ e1 e2 R Q' hp Q k => h2 C σ H ex Γ e1 e2 R _ hp _ fun vs ds H1 R1 g1 d1 q1 =>
  ⟨by rw [dpa_len d1]; exact q1.1, fun p np => k _ _ _ (R1.new np _) (g1.trans (.of (same_new np _))) (.tup (SqT.of (mask_new (R1.fresh np))) (dpa_mono (Grow.mask R1 (.of (same_new np _))) d1)) q1.2⟩⟩
/-- what a new object beside leaves free -/
theorem mask_own {C : Ctx} {σ : L2.St} {H : Hp} {ex : List Addr} {Γ : VEnv} (R : Rel C σ H ex Γ) {p : Addr} (n : H p = none) (o : HO) : Same (Mask H ex) (Mask (upd H p o) (p :: ex)) := mask_same fun a u na e => by
  have ne : a ≠ p := fun z => by rw [z, n] at e; cases e
  refine ⟨fun z => ?_, by rw [upd_ne ne]; exact e⟩
  rcases List.mem_cons.mp z with z | z
  · exact ne z
  · exact na z
theorem Grow.none {C : Ctx} {H H' : Hp} (g : Grow C H H') {σ : L2.St} {ex : List Addr} {Γ : VEnv} (R : Rel C σ H' ex Γ) {p : Addr} (n : H' p = none) : H p = none := by
  cases e : H p with
  | none => rfl
  | some o =>
    have hd : p ∉ C.dk := fun z => by
      obtain ⟨u, e', _⟩ := R.all p (R.exs p (C.dkE p z))
      rw [n] at e'; cases e'
    rw [g p o hd e] at n; cases n
theorem q_lst (h : QA X es pa) : QN X (.List es pos) (wLst pa) := let ⟨_, h1, h2⟩ := h.ex; ⟨_, pe_lst h1, fun C σ H ex Γ e1 e2 R Q' hp Q k => h2 C σ H ex Γ e1 e2 R _ hp _ fun vs ds H1 R1 g1 d1 q1 =>
  ⟨by rw [dpa_len d1]; exact q1.1, fun p np => k p vs ds _ (R1.new np _) (g1.trans (.of (same_new np _))) (g1.none R1 np) upd_same (dpa_mono (mask_own R1 np _) d1) q1.2⟩⟩
theorem small_of {n : Nat} (h : n ≤ 1000) : n ≤ sizeLine := Nat.le_of_lt (small1000 h)
abbrev wTupL (p : WA) : WE := fun Γ Q => p Γ fun ds => Q (.tuple ds)
theorem q_tupL {x1} (h : QL X es pa) (hz : es.length ≤ 1000 := by decide) : QE X (.Tuple es x1 pos) (wTupL pa) := let ⟨_, h1, h2⟩ := h.ex; ⟨_, pe_tup h1, fun C σ H ex Γ e1 e2 R Q' hp Q k => h2 C σ H ex Γ e1 e2 R _ hp _ fun vs ds H1 R1 g1 d1 l q1 =>
  ⟨by rw [dpa_len d1, l]; exact small_of hz, fun p np => k _ _ _ (R1.new np _) (g1.trans (.of (same_new np _))) (.tup (SqT.of (mask_new (R1.fresh np))) (dpa_mono (Grow.mask R1 (.of (same_new np _))) d1)) q1⟩⟩
theorem q_lstL (h : QL X es pa) (hz : es.length ≤ 1000 := by decide) : QN X (.List es pos) pa := let ⟨_, h1, h2⟩ := h.ex; ⟨_, pe_lst h1, fun C σ H ex Γ e1 e2 R Q' hp Q k => h2 C σ H ex Γ e1 e2 R _ hp _ fun vs ds H1 R1 g1 d1 l q1 =>
  ⟨by rw [dpa_len d1, l]; exact small_of hz, fun p np => k p vs ds _ (R1.new np _) (g1.trans (.of (same_new np _))) (g1.none R1 np) upd_same (dpa_mono (mask_own R1 np _) d1) q1⟩⟩
/-! ### calls of built-in functions -/
abbrev OC := List PyData → (PyData → Prop) → Prop
def LC (K : PySem.W.Frag) (w : World) (r : List V → Hp → VK → Prop) (o : OC) : Prop :=
  ∀ (C : Ctx) (σ : L2.St) (H : Hp) (ex : List Addr) (Γ : VEnv) (vs : List V) (ds : List PyData), C.K = K → C.w = w → Rel C σ H ex Γ → Paired (DB C H ex) vs ds → ∀ Q' : PyData → Prop, o ds Q' → ∀ Q : VK,
    (∀ v d H', Rel C σ H' ex Γ → Grow C H H' → Dd C.K (Mask H' ex) v d → Q' d → Q v H') → r vs H Q
abbrev wB (o : OC) (p : WA) : WE := fun Γ Q => p Γ fun ds => o ds Q
theorem le_B {r : List V → Hp → VK → Prop} {o : OC} {t : TA} (lo : LC K w r o) (h : LAB K w t pa) : LE K w (tCB r t) (wB o pa) := fun C σ H ex Γ e1 e2 R Q' hp Q k =>
  h C σ H ex Γ e1 e2 R _ hp _ fun vs ds H1 R1 g1 d1 q1 => lo C σ H1 ex Γ vs ds e1 e2 R1 d1 _ q1 _ fun v d H2 R2 g2 d2 q2 => k v d H2 R2 (g1.trans g2) d2 q2
variable {x : Str} {id T : String} {r : List V → Hp → VK → Prop} {o : OC} {p1 : Pos}
theorem q_B (hc : CallR X (.builtin id) r) (lo : LC X.K X.w r o) (hg : Gl X x) (hm : X.mg x = none) (hv : bootBuiltins x = some (.builtin id)) (ha : QAB X (e :: es) pa) (hn : x ≠ "__name__" := by decide) (hdb : (x == ("__debug__" : Str)) = false := by decide)
    (he : starEach (e :: es) X.env = (false, eval e X.env) :: starEach es X.env := by rfl) (hpl : (backTo pos (starEach es X.env)).any (·.1) = false := by rfl) : QE X (.Call (.Name x p1) (e :: es) [] pos) (wB o pa) :=
  let ⟨_, a1, a2⟩ := ha.ex; ⟨_, pe_callB hc hg hm hv a1 hn hdb he hpl, le_B lo a2⟩
theorem q_Ty (hc : CallR X (.type T) r) (lo : LC X.K X.w r o) (hg : Gl X x) (hm : X.mg x = none) (hv : bootBuiltins x = some (.type T)) (ha : QAB X (e :: es) pa) (hn : x ≠ "__name__" := by decide) (hdb : (x == ("__debug__" : Str)) = false := by decide)
    (he : starEach (e :: es) X.env = (false, eval e X.env) :: starEach es X.env := by rfl) (hpl : (backTo pos (starEach es X.env)).any (·.1) = false := by rfl) : QE X (.Call (.Name x p1) (e :: es) [] pos) (wB o pa) :=
  let ⟨_, a1, a2⟩ := ha.ex; ⟨_, pe_callTy hc hg hm hv a1 hn hdb he hpl, le_B lo a2⟩
theorem q_Bfun (hc : CallR X (.builtin id) r) (lo : LC X.K X.w r o) (hg : Gl X x) (hm : X.mg x = some (.builtin id)) (ha : QAB X (e :: es) pa) (hdb : (x == ("__debug__" : Str)) = false := by decide)
    (he : starEach (e :: es) X.env = (false, eval e X.env) :: starEach es X.env := by rfl) (hpl : (backTo pos (starEach es X.env)).any (·.1) = false := by rfl) : QE X (.Call (.Name x p1) (e :: es) [] pos) (wB o pa) :=
  let ⟨_, a1, a2⟩ := ha.ex; ⟨_, pe_callBfun hc hg hm a1 hdb he hpl, le_B lo a2⟩
end
theorem db_cons {C : Ctx} {H : Hp} {ex : List Addr} {vs : List V} {d : PyData} {ds : List PyData} (h : Paired (DB C H ex) vs (d :: ds)) : ∃ v r, vs = v :: r ∧ DB C H ex v d ∧ Paired (DB C H ex) r ds := by
  cases h with
  | cons a b => exact ⟨_, _, rfl, a, b⟩
theorem db_nil {C : Ctx} {H : Hp} {ex : List Addr} {vs : List V} (h : Paired (DB C H ex) vs []) : vs = [] := by cases h; rfl
theorem db_1 {C : Ctx} {H : Hp} {ex : List Addr} {vs : List V} {d : PyData} (h : Paired (DB C H ex) vs [d]) : ∃ v, vs = [v] ∧ DB C H ex v d := by
  obtain ⟨v, r, rfl, h1, h2⟩ := db_cons h
  obtain rfl := db_nil h2
  exact ⟨v, rfl, h1⟩
theorem db_2 {C : Ctx} {H : Hp} {ex : List Addr} {vs : List V} {d e : PyData} (h : Paired (DB C H ex) vs [d, e]) : ∃ v u, vs = [v, u] ∧ DB C H ex v d ∧ DB C H ex u e := by
  obtain ⟨v, r, rfl, h1, h2⟩ := db_cons h
  obtain ⟨u, rfl, h3⟩ := db_1 h2
  exact ⟨v, u, rfl, h1, h3⟩
section
variable {K : PySem.W.Frag} {w : World}
def oLen : OC := fun ds Q => match ds with
  | [.tuple xs] => Q (.int xs.length)
  | [.list xs] => Q (.int xs.length)
  | _ => False
theorem lc_len : LC K w (rLenS K) oLen := fun C σ H ex Γ vs ds e1 e2 R hv Q' h Q k => by
  subst e1
  unfold oLen at h
  split at h
  · obtain ⟨v, rfl, hd⟩ := db_1 hv
    obtain ⟨a, xs, rfl, h1, h2⟩ := hd.tup
    refine ⟨a, xs, rfl, .inr h1, ?_⟩
    rw [dpa_len h2]
    exact k _ _ H R (.refl H) (.int _) h
  · obtain ⟨v, rfl, hd⟩ := db_1 hv
    obtain ⟨a, xs, rfl, h1, h2⟩ := hd.list
    refine ⟨a, xs, rfl, .inl (.of h1), ?_⟩
    rw [dpa_len h2]
    exact k _ _ H R (.refl H) (.int _) h
  · exact h.elim
def oInt : OC := fun ds Q => match ds with
  | [.int i] => Q (.int i)
  | [.bool b] => Q (.int (if b = true then 1 else 0))
  | _ => False
theorem lc_int : LC K w (fun xs H Q => (∃ i, xs = [.int i] ∧ Q (.int i) H) ∨ ∃ k, xs = [.bl k] ∧ Q (.int (if k then 1 else 0)) H) oInt := fun C σ H ex Γ vs ds e1 e2 R hv Q' h Q k => by
  unfold oInt at h
  split at h
  · obtain ⟨v, rfl, hd⟩ := db_1 hv
    rw [hd.int]
    exact .inl ⟨_, rfl, k _ _ H R (.refl H) (.int _) h⟩
  · obtain ⟨v, rfl, hd⟩ := db_1 hv
    rw [hd.bl]
    exact .inr ⟨_, rfl, k _ _ H R (.refl H) (.int _) h⟩
  · exact h.elim
def oAbs : OC := fun ds Q => match ds with
  | [.int i] => Q (.int (if i < 0 then -i else i))
  | _ => False
theorem lc_abs : LC K w (fun xs H Q => ∃ i, xs = [.int i] ∧ Q (.int (if i < 0 then -i else i)) H) oAbs := fun C σ H ex Γ vs ds e1 e2 R hv Q' h Q k => by
  unfold oAbs at h
  split at h
  · obtain ⟨v, rfl, hd⟩ := db_1 hv
    rw [hd.int]
    exact ⟨_, rfl, k _ _ H R (.refl H) (.int _) h⟩
  · exact h.elim
def o2I (g : Int → Int → Int) : OC := fun ds Q => match ds with
  | [.int i, .int j] => Q (.int (g i j))
  | _ => False
theorem lc_2I {g : Int → Int → Int} : LC K w (fun xs H Q => ∃ i j, xs = [.int i, .int j] ∧ Q (.int (g i j)) H) (o2I g) := fun C σ H ex Γ vs ds e1 e2 R hv Q' h Q k => by
  unfold o2I at h
  split at h
  · obtain ⟨v, u, rfl, h1, h2⟩ := db_2 hv
    rw [h1.int, h2.int]
    exact ⟨_, _, rfl, k _ _ H R (.refl H) (.int _) h⟩
  · exact h.elim
def gcdI (a b : Int) : Int := ((Nat.gcd a.natAbs b.natAbs : Nat) : Int)
theorem lc_gcd : LC K w rGcd (o2I gcdI) := lc_2I
def oSum : OC := fun ds Q => match ds with
  | [.list xs] => ∃ ns : List Int, xs = ns.map .int ∧ Q (.int ns.sum)
  | _ => False
theorem lc_sum : LC K w (rSum K) oSum := fun C σ H ex Γ vs ds e1 e2 R hv Q' h Q k => by
  unfold oSum at h
  split at h
  · obtain ⟨v, rfl, hd⟩ := db_1 hv
    obtain ⟨a, xs, rfl, h1, h2⟩ := hd.list
    obtain ⟨ns, rfl, h⟩ := h
    obtain rfl := dpa_ints_inv h2
    exact ⟨a, ns, rfl, .of h1, k _ _ H R (.refl H) (.int _) h⟩
  · exact h.elim
def oBls (g : List Bool → Bool) : OC := fun ds Q => match ds with
  | [.list xs] => ∃ ns : List Bool, xs = ns.map .bool ∧ Q (.bool (g ns))
  | _ => False
theorem lc_bls {g : List Bool → Bool} : LC K w (fun vs H Q => ∃ (a : Addr) (bs : List Bool), vs = [V.ref a] ∧ SqL K H a (bs.map V.bl) ∧ Q (.bl (g bs)) H) (oBls g) := fun C σ H ex Γ vs ds e1 e2 R hv Q' h Q k => by
  unfold oBls at h
  split at h
  · obtain ⟨v, rfl, hd⟩ := db_1 hv
    obtain ⟨a, xs, rfl, h1, h2⟩ := hd.list
    obtain ⟨ns, rfl, h⟩ := h
    obtain rfl := dpa_bls_inv h2
    exact ⟨a, ns, rfl, .of h1, k _ _ H R (.refl H) (.bl _) h⟩
  · exact h.elim
def oTupOf : OC := fun ds Q => match ds with
  | [.list xs] => Q (.tuple xs)
  | [.tuple xs] => Q (.tuple xs)
  | _ => False
theorem lc_tupOf : LC K w (rTupOf K) oTupOf := fun C σ H ex Γ vs ds e1 e2 R hv Q' h Q k => by
  subst e1
  unfold oTupOf at h
  split at h
  · obtain ⟨v, rfl, hd⟩ := db_1 hv
    obtain ⟨a, xs, rfl, h1, h2⟩ := hd.list
    exact ⟨a, xs, rfl, .inl ⟨.of h1, fun p np => k _ _ _ (R.new np _) (.of (same_new np _)) (.tup (SqT.of (mask_new (R.fresh np))) (dpa_mono (Grow.mask R (.of (same_new np _))) h2)) h⟩⟩
  · obtain ⟨v, rfl, hd⟩ := db_1 hv
    obtain ⟨a, xs, rfl, h1, h2⟩ := hd.tup
    exact ⟨a, xs, rfl, .inr ⟨h1, k _ _ H R (.refl H) (.tup (R.tup h1) h2) h⟩⟩
  · exact h.elim
/-- repr -/
def oRepr : OC := fun ds Q => match ds with
  | [d] => d.showable = true ∧ d.hasDict = false ∧ d.depth ≤ 40 ∧ d.shown.length ≤ sizeLine ∧ Q (.str d.shown)
  | _ => False
theorem lc_repr : LC K w (rReprA K) oRepr := fun C σ H ex Γ vs ds e1 e2 R hv Q' h Q k => by
  subst e1
  unfold oRepr at h
  split at h
  · obtain ⟨v, rfl, hd⟩ := db_1 hv
    exact ⟨v, _, rfl, hd.full.dp, h.1, h.2.1, h.2.2.1, h.2.2.2.1, k _ _ H R (.refl H) (.str _) h.2.2.2.2⟩
  · exact h.elim
theorem rp_w {n k : Nat} {d : PyData} {Q : PyData → Prop} (h : Rp n k d) (hn : n ≤ sizeLine) (hk : k ≤ 40) (q : Q (.str d.shown)) : oRepr [d] Q := ⟨h.sh, h.nd, Nat.le_trans h.dp hk, Nat.le_trans h.ln hn, q⟩
/-- new lists -/
abbrev ON := List PyData → (List PyData → Prop) → Prop
def LCN (K : PySem.W.Frag) (w : World) (r : List V → Hp → VK → Prop) (o : ON) : Prop :=
  ∀ (C : Ctx) (σ : L2.St) (H : Hp) (ex : List Addr) (Γ : VEnv) (vs : List V) (ds : List PyData), C.K = K → C.w = w → Rel C σ H ex Γ → Paired (DB C H ex) vs ds → ∀ Q' : List PyData → Prop, o ds Q' → ∀ Q : VK,
    (∀ a xs ds H', Rel C σ H' ex Γ → Grow C H H' → H a = none → H' a = some (.lst xs) → DdAll C.K (Mask H' (a :: ex)) xs ds → Q' ds → Q (.ref a) H') → r vs H Q
def oLstOf : ON := fun ds Q => match ds with
  | [.list xs] => Q xs
  | [.tuple xs] => Q xs
  | _ => False
theorem lcn_lstOf : LCN K w (rLstOf K) oLstOf := fun C σ H ex Γ vs ds e1 e2 R hv Q' h Q k => by
  subst e1
  unfold oLstOf at h
  split at h
  · obtain ⟨v, rfl, hd⟩ := db_1 hv
    obtain ⟨a, xs, rfl, h1, h2⟩ := hd.list
    exact ⟨a, xs, rfl, .inl (.of h1), fun p np => k p xs _ _ (R.new np _) (.of (same_new np _)) np upd_same (dpa_mono (mask_own R np _) h2) h⟩
  · obtain ⟨v, rfl, hd⟩ := db_1 hv
    obtain ⟨a, xs, rfl, h1, h2⟩ := hd.tup
    exact ⟨a, xs, rfl, .inr h1, fun p np => k p xs _ _ (R.new np _) (.of (same_new np _)) np upd_same (dpa_mono (mask_own R np _) h2) h⟩
  · exact h.elim
def oSortI : ON := fun ds Q => match ds with
  | [.list xs] => ∃ ns : List Int, xs = ns.map .int ∧ ∀ ns' : List Int, ns'.Perm ns → ns'.Pairwise (· ≤ ·) → Q (ns'.map .int)
  | _ => False
theorem lcn_sortI : LCN K w (rSortedI K) oSortI := fun C σ H ex Γ vs ds e1 e2 R hv Q' h Q k => by
  subst e1
  unfold oSortI at h
  split at h
  · obtain ⟨v, rfl, hd⟩ := db_1 hv
    obtain ⟨a, xs, rfl, h1, h2⟩ := hd.list
    obtain ⟨ns, rfl, h⟩ := h
    obtain rfl := dpa_ints_inv h2
    exact ⟨a, ns, rfl, .of h1, fun ns' p hp hs np => k p _ _ _ (R.new np _) (.of (same_new np _)) np upd_same (dpa_ints ns') (h ns' hp hs)⟩
  · exact h.elim
/-- data sorted -/
def sortP (ds : List PyData) : List PyData := ds.mergeSort (PySem.W.dataLe false id)
def oSortD : ON := fun ds Q => match ds with
  | [.list xs] => PySem.W.AllAlike xs ∧ PySem.W.Sortable xs ∧ (∀ x ∈ xs, x.depth ≤ 40) ∧ xs.length ≤ sizeLine ∧ Q (sortP xs)
  | _ => False
theorem zip_of {H : Hp} : ∀ {vs : List V} {ds : List PyData}, DdAll K H vs ds → ∃ zs : List (V × PyData), zs.map (·.1) = vs ∧ zs.map (·.2) = ds ∧ ∀ z ∈ zs, Dd K H z.1 z.2
  | _, _, .nil => ⟨[], rfl, rfl, fun _ h => absurd h List.not_mem_nil⟩
  | _, _, .cons h1 h2 => by
    obtain ⟨zs, e1, e2, h⟩ := zip_of h2
    refine ⟨(_, _) :: zs, by rw [List.map_cons, e1], by rw [List.map_cons, e2], fun z hz => ?_⟩
    rcases List.mem_cons.mp hz with rfl | hz
    · exact h1
    · exact h z hz
theorem of_zip {H : Hp} : ∀ (zs : List (V × PyData)), (∀ z ∈ zs, Dd K H z.1 z.2) → DdAll K H (zs.map (·.1)) (zs.map (·.2))
  | [], _ => .nil
  | z :: r, h => .cons (h z List.mem_cons_self) (of_zip r fun x hx => h x (List.mem_cons_of_mem _ hx))
theorem lcn_sortD : LCN K w (rSortD K) oSortD := fun C σ H ex Γ vs ds e1 e2 R hv Q' h Q k => by
  subst e1
  unfold oSortD at h
  split at h
  · obtain ⟨v, rfl, hd⟩ := db_1 hv
    obtain ⟨a, xs, rfl, h1, h2⟩ := hd.list
    obtain ⟨zs, rfl, rfl, hz⟩ := zip_of h2
    refine ⟨a, zs, rfl, .of h1, fun z m => dpp_mono (mask_le H ex) (hz z m).dp, h.1, h.2.1, fun z m => h.2.2.1 _ (List.mem_map_of_mem m), by simpa using h.2.2.2.1, fun p np => ?_⟩
    refine k p _ _ _ (R.new np _) (.of (same_new np _)) np upd_same (dpa_mono (mask_own R np _) (of_zip _ fun z m => hz z ((List.mergeSort_perm zs _).mem_iff.mp m))) ?_
    have e : (zs.mergeSort (PySem.W.dataLe false (·.2))).map (·.2) = sortP (zs.map (·.2)) := by
      unfold sortP
      exact List.map_mergeSort fun a _ b _ => rfl
    rw [e]
    exact h.2.2.2.2
  · exact h.elim
end
section
variable {X : Cx} {e : Expr} {es : List Expr} {pos p1 : Pos} {pa : WA} {K : PySem.W.Frag} {w : World} {x : Str} {id T : String} {r : List V → Hp → VK → Prop} {o : ON}
abbrev wBN (o : ON) (p : WA) : WA := fun Γ Q => p Γ fun ds => o ds Q
theorem ln_B {t : TA} (lo : LCN K w r o) (h : LAB K w t pa) : LN K w (tCB r t) (wBN o pa) := fun C σ H ex Γ e1 e2 R Q' hp Q k =>
  h C σ H ex Γ e1 e2 R _ hp _ fun vs ds H1 R1 g1 d1 q1 => lo C σ H1 ex Γ vs ds e1 e2 R1 d1 _ q1 _ fun a xs zs H2 R2 g2 n2 h2 d2 q2 => k a xs zs H2 R2 (g1.trans g2) (g1.none R1 n2) h2 d2 q2
theorem q_BN (hc : CallR X (.builtin id) r) (lo : LCN X.K X.w r o) (hg : Gl X x) (hm : X.mg x = none) (hv : bootBuiltins x = some (.builtin id)) (ha : QAB X (e :: es) pa) (hn : x ≠ "__name__" := by decide) (hdb : (x == ("__debug__" : Str)) = false := by decide)
    (he : starEach (e :: es) X.env = (false, eval e X.env) :: starEach es X.env := by rfl) (hpl : (backTo pos (starEach es X.env)).any (·.1) = false := by rfl) : QN X (.Call (.Name x p1) (e :: es) [] pos) (wBN o pa) :=
  let ⟨_, a1, a2⟩ := ha.ex; ⟨_, pe_callB hc hg hm hv a1 hn hdb he hpl, ln_B lo a2⟩
theorem q_TyN (hc : CallR X (.type T) r) (lo : LCN X.K X.w r o) (hg : Gl X x) (hm : X.mg x = none) (hv : bootBuiltins x = some (.type T)) (ha : QAB X (e :: es) pa) (hn : x ≠ "__name__" := by decide) (hdb : (x == ("__debug__" : Str)) = false := by decide)
    (he : starEach (e :: es) X.env = (false, eval e X.env) :: starEach es X.env := by rfl) (hpl : (backTo pos (starEach es X.env)).any (·.1) = false := by rfl) : QN X (.Call (.Name x p1) (e :: es) [] pos) (wBN o pa) :=
  let ⟨_, a1, a2⟩ := ha.ex; ⟨_, pe_callTy hc hg hm hv a1 hn hdb he hpl, ln_B lo a2⟩
end
end PV
namespace PV
open PySem PySem.Spec PyProof.Rows L2 RZ StX SrtO Kw
/-! ### statements -/
structure WEnds where
  nx : VEnv → Prop
  rt : PyData → VEnv → Prop
  bk : VEnv → Prop := fun _ => False
  ct : VEnv → Prop := fun _ => False
abbrev WS := WEnds → VEnv → Prop
structure SubE (C : Ctx) (H : Hp) (ex : List Addr) (E' : WEnds) (E : Ends) : Prop where
  nx : ∀ σ' H' ex' Γ', Rel C σ' H' ex' Γ' → Same (Mask H ex) (Mask H' ex') → E'.nx Γ' → E.nx σ' H'
  rt : ∀ σ' H' ex' Γ' v d, Rel C σ' H' ex' Γ' → Dd C.K (Mask H' C.ex0) v d → E'.rt d Γ' → E.rt v H'
  bk : ∀ σ' H' ex' Γ', Rel C σ' H' ex' Γ' → Same (Mask H ex) (Mask H' ex') → E'.bk Γ' → E.bk σ' H'
  ct : ∀ σ' H' ex' Γ', Rel C σ' H' ex' Γ' → Same (Mask H ex) (Mask H' ex') → E'.ct Γ' → E.ct σ' H'
theorem SubE.after {C : Ctx} {H H1 : Hp} {ex ex1 : List Addr} {E' : WEnds} {E : Ends} (h : SubE C H ex E' E) (m : Same (Mask H ex) (Mask H1 ex1)) : SubE C H1 ex1 E' E :=
  ⟨fun σ' H' ex' Γ' R s q => h.nx σ' H' ex' Γ' R (m.trans s) q, h.rt, fun σ' H' ex' Γ' R s q => h.bk σ' H' ex' Γ' R (m.trans s) q, fun σ' H' ex' Γ' R s q => h.ct σ' H' ex' Γ' R (m.trans s) q⟩
def LS (K : PySem.W.Frag) (w : World) (t : TS) (p : WS) : Prop :=
  ∀ (C : Ctx) (σ : L2.St) (H : Hp) (ex : List Addr) (Γ : VEnv), C.K = K → C.w = w → Rel C σ H ex Γ → ∀ E' : WEnds, p E' Γ → ∀ E : Ends, SubE C H ex E' E → t E σ H
structure QS (X : Cx) (st : Stmt) (p : WS) : Prop where
  ex : ∃ t, PS X st t ∧ LS X.K X.w t p
structure QSs (X : Cx) (st : List Stmt) (p : WS) : Prop where
  ex : ∃ t, PSs X st t ∧ LS X.K X.w t p
section
variable {X : Cx} {st : Stmt} {rest : List Stmt} {ps qs : WS} {a b c e : Expr} {es : List Expr} {pos : Pos} {p q : WE} {pt : WT} {pa : WA} {K : PySem.W.Frag} {w : World}
abbrev wNext : WS := fun E Γ => E.nx Γ
abbrev wSeq (p q : WS) : WS := fun E Γ => p { E with nx := q E } Γ
theorem qs_nil : QSs X [] wNext := ⟨_, pss_nil, fun C σ H ex Γ e1 e2 R E' hp E s => s.nx σ H ex Γ R (Same.refl _) hp⟩
theorem qs_cons (h1 : QS X st ps) (h2 : QSs X rest qs) : QSs X (st :: rest) (wSeq ps qs) :=
  let ⟨_, a1, a2⟩ := h1.ex; let ⟨_, b1, b2⟩ := h2.ex; ⟨_, pss_cons a1 b1, fun C σ H ex Γ e1 e2 R E' hp E s => a2 C σ H ex Γ e1 e2 R _ hp _
    ⟨fun σ' H' ex' Γ' R' m q => b2 C σ' H' ex' Γ' e1 e2 R' E' q E (s.after m), s.rt, s.bk, s.ct⟩⟩
theorem qs_one (h1 : QS X st ps) : QSs X [st] ps := let ⟨_, a1, a2⟩ := h1.ex; ⟨_, pss_one a1, a2⟩
theorem qs_pass : QS X (.Pass pos) wNext := ⟨_, ps_pass, fun C σ H ex Γ e1 e2 R E' hp E s => s.nx σ H ex Γ R (Same.refl _) hp⟩
theorem qs_break : QS X (.Break pos) (fun E Γ => E.bk Γ) := ⟨_, ps_break, fun C σ H ex Γ e1 e2 R E' hp E s => s.bk σ H ex Γ R (Same.refl _) hp⟩
theorem qs_continue : QS X (.Continue pos) (fun E Γ => E.ct Γ) := ⟨_, ps_continue, fun C σ H ex Γ e1 e2 R E' hp E s => s.ct σ H ex Γ R (Same.refl _) hp⟩
theorem qs_never : QS X st (fun _ _ => False) := ⟨_, ps_never, fun C σ H ex Γ e1 e2 R E' hp E s => hp.elim⟩
theorem DB.out {C : Ctx} {σ : L2.St} {H : Hp} {ex : List Addr} {Γ : VEnv} (R : Rel C σ H ex Γ) {v : V} {d : PyData} (h : DB C H ex v d) : Dd C.K (Mask H C.ex0) v d := by
  have s : Same (Mask H ex) (Mask H C.ex0) := mask_same fun a o n e => ⟨fun z => n (R.exs a z), e⟩
  rcases h with h | ⟨a, xs, ds, rfl, rfl, h1, h2, h3, h4⟩
  · exact dp_mono s h
  · exact .lst (by rw [mask_out h2.1]; exact h3) (dpa_mono s h4)
abbrev wRet (p : WE) : WS := fun E Γ => p Γ fun d => E.rt d Γ
theorem qs_ret (h : QB X e p) : QS X (.Return (some e) pos) (wRet p) := let ⟨_, a1, a2⟩ := h.ex; ⟨_, ps_ret a1, fun C σ H ex Γ e1 e2 R E' hp E s => a2 C σ H ex Γ e1 e2 R _ hp _ fun v d H' R' g hd q => s.rt σ H' ex Γ v d R' (hd.out R') q⟩
theorem qs_retN : QS X (.Return none pos) (fun E Γ => E.rt .none Γ) := ⟨_, ps_retN, fun C σ H ex Γ e1 e2 R E' hp E s => s.rt σ H ex Γ _ _ R .non hp⟩
abbrev wDrop (p : WE) : WS := fun E Γ => p Γ fun _ => E.nx Γ
theorem qs_expr (h : QB X e p) (hs : swapsWith e none pos.line X.env = pure false := by rfl) : QS X (.Expr e pos) (wDrop p) := let ⟨_, a1, a2⟩ := h.ex; ⟨_, ps_expr a1 hs, fun C σ H ex Γ e1 e2 R E' hp E s => a2 C σ H ex Γ e1 e2 R _ hp _ fun v d H' R' g hd q => s.nx σ H' ex Γ R' (g.mask R) q⟩
abbrev wIfS (c : WT) (p q : WS) : WS := fun E Γ => c Γ fun b => if b = true then p E Γ else q E Γ
theorem qs_if {s1 s2 : List Stmt} (hc : QT X c pt) (ha : QSs X s1 ps) (hb : QSs X s2 qs) : QS X (.If c s1 s2 pos) (wIfS pt ps qs) :=
  let ⟨_, c1, c2⟩ := hc.ex; let ⟨_, a1, a2⟩ := ha.ex; let ⟨_, b1, b2⟩ := hb.ex; ⟨_, ps_if c1 a1 b1, fun C σ H ex Γ e1 e2 R E' hp E s => c2 C σ H ex Γ e1 e2 R _ hp _ fun b H' R' g q => by
    cases b with
    | true => exact a2 C σ H' ex Γ e1 e2 R' E' q E (s.after (g.mask R))
    | false => exact b2 C σ H' ex Γ e1 e2 R' E' q E (s.after (g.mask R))⟩
/-! ### slots -/
theorem getSet {α : Type} {l : List α} {i j : Nat} {x y : α} (h : (l.set i x)[j]? = some y) : (i = j ∧ y = x ∧ i < l.length) ∨ (i ≠ j ∧ l[j]? = some y) := by
  by_cases c : i = j
  · subst c
    by_cases d : i < l.length
    · rw [List.getElem?_set_self d] at h
      exact .inl ⟨rfl, (Option.some.inj h).symm, d⟩
    · rw [List.getElem?_eq_none (by simpa using d)] at h
      cases h
  · rw [List.getElem?_set_ne c] at h
    exact .inr ⟨c, h⟩
variable {C : Ctx} {σ : L2.St} {H H' : Hp} {ex : List Addr} {Γ : VEnv}
/-- a slot written with what is not changed -/
theorem Rel.setX (R : Rel C σ H ex Γ) {i : Nat} {v : V} {x : AV} (hx : AvAt C H ex v x) (hm : ¬ x.obj) : Rel C (σ.set i (some v)) H ex (Γ.set i (some x)) where
  len := by rw [List.length_set, List.length_set]; exact R.len
  slot := fun j y e => by
    rcases getSet e with ⟨rfl, e, l⟩ | ⟨c, e⟩
    · cases e
      exact ⟨v, List.getElem?_set_self (by rw [← R.len]; exact l), hx⟩
    · obtain ⟨u, h1, h2⟩ := R.slot j y e
      exact ⟨u, by rw [List.getElem?_set_ne c]; exact h1, h2⟩
  apart := fun j k y z a hn h1 h2 m1 m2 s1 s2 => by
    rcases getSet h1 with ⟨rfl, e, l⟩ | ⟨c, e⟩
    · cases e; exact hm (AV.mut_obj m1)
    · rcases getSet h2 with ⟨rfl, e', l⟩ | ⟨c', e'⟩
      · cases e'; exact hm m2
      · rw [List.getElem?_set_ne c] at s1
        rw [List.getElem?_set_ne c'] at s2
        exact R.apart j k y z a hn e e' m1 m2 s1 s2
  exs := R.exs
  all := R.all
  keep := R.keep
  deck := R.deck
theorem Rel.set (R : Rel C σ H ex Γ) {i : Nat} {v : V} {d : PyData} (hd : Dd C.K (Mask H ex) v d) : Rel C (σ.set i (some v)) H ex (Γ.set i (some (.val d))) := R.setX hd (fun h => h)
/-- what the slots bear after growing beside -/
theorem Rel.beside (R : Rel C σ H ex Γ) (R' : Rel C σ H' ex Γ) (g : Grow C H H') {a : Addr} (n : H a = none) {xs : List V} (e : H' a = some (.lst xs)) : Rel C σ H' (a :: ex) Γ where
  len := R.len
  slot := fun i x h => by
    obtain ⟨v, h1, h2⟩ := R.slot i x h
    refine ⟨v, h1, h2.grow (fun b z => List.mem_cons_of_mem _ z) C.dkE (mask_same fun b o nb eb => ?_) g⟩
    refine ⟨fun z => ?_, g b o (R.nodk nb) eb⟩
    rcases List.mem_cons.mp z with z | z
    · rw [z, n] at eb; cases eb
    · exact nb z
  apart := R.apart
  exs := fun b z => List.mem_cons_of_mem _ (R.exs b z)
  all := fun b z => by
    rcases List.mem_cons.mp z with rfl | z
    · exact ⟨_, e, fun _ q => (by cases q), fun _ _ q => (by cases q)⟩
    · exact R'.all b z
  keep := R'.keep
  deck := R'.deck
theorem Rel.objAt (R : Rel C σ H ex Γ) {i : Nat} {x : AV} (h : Γ[i]? = some (some x)) (m : x.obj) {a : Addr} (s : σ[i]? = some (some (.ref a))) : ∃ o, H a = some o := by
  obtain ⟨v, h1, h2⟩ := R.slot i x h
  rw [h1] at s
  cases s
  cases x with
  | val d => exact m.elim
  | lst ds =>
    obtain ⟨b, xs, e, _, _, q, _⟩ := h2
    cases e
    exact ⟨_, q⟩
  | dct lk es =>
    obtain ⟨b, ks, e, _, _, q, _⟩ := h2
    cases e
    cases lk with
    | true =>
      rw [if_pos rfl] at q
      rcases q with q | ⟨o, q⟩ <;> exact ⟨_, q⟩
    | false =>
      rw [if_neg Bool.false_ne_true] at q
      exact ⟨_, q.1⟩
  | dlk es =>
    obtain ⟨b, ks, o, e, _, _, q, _⟩ := h2
    cases e
    exact ⟨_, q⟩
  | pdt b es =>
    obtain ⟨ks, e, _, _, q, _⟩ := h2
    cases e
    exact ⟨_, q.1⟩
  | deck => exact m.elim
  | raw u => exact m.elim
/-- a slot with a new object -/
theorem Rel.besideG (R : Rel C σ H ex Γ) (R' : Rel C σ H' ex Γ) (g : Grow C H H') {a : Addr} (n : H a = none) (e : ∃ o, H' a = some o ∧ NT o) : Rel C σ H' (a :: ex) Γ where
  len := R.len
  slot := fun i x h => by
    obtain ⟨v, h1, h2⟩ := R.slot i x h
    refine ⟨v, h1, h2.grow (fun b z => List.mem_cons_of_mem _ z) C.dkE (mask_same fun b o nb eb => ?_) g⟩
    refine ⟨fun z => ?_, g b o (R.nodk nb) eb⟩
    rcases List.mem_cons.mp z with z | z
    · rw [z, n] at eb; cases eb
    · exact nb z
  apart := R.apart
  exs := fun b z => List.mem_cons_of_mem _ (R.exs b z)
  all := fun b z => by
    rcases List.mem_cons.mp z with rfl | z
    · exact e
    · exact R'.all b z
  keep := R'.keep
  deck := R'.deck
theorem Rel.setNewG (R : Rel C σ H ex Γ) (R' : Rel C σ H' ex Γ) (g : Grow C H H') {i : Nat} {a : Addr} {x : AV} (n : H a = none) (e : ∃ o, H' a = some o ∧ NT o) (hx : AvAt C H' (a :: ex) (.ref a) x) :
    Rel C (σ.set i (some (.ref a))) H' (a :: ex) (Γ.set i (some x)) := by
  have B := R.besideG R' g n e
  refine ⟨by rw [List.length_set, List.length_set]; exact R.len, fun j y h => ?_, fun j k y z b hn h1 h2 m1 m2 s1 s2 => ?_, B.exs, B.all, B.keep, B.deck⟩
  · rcases getSet h with ⟨rfl, e', l⟩ | ⟨c, e'⟩
    · cases e'
      exact ⟨.ref a, List.getElem?_set_self (by rw [← R.len]; exact l), hx⟩
    · obtain ⟨u, h1, h2⟩ := B.slot j y e'
      exact ⟨u, by rw [List.getElem?_set_ne c]; exact h1, h2⟩
  · have old : ∀ (j : Nat) (y : AV), Γ[j]? = some (some y) → y.obj → σ[j]? = some (some (.ref a)) → False := fun j y h m s => by
      obtain ⟨o, q⟩ := R.objAt h m s
      rw [n] at q; cases q
    rcases getSet h1 with ⟨rfl, e1, l⟩ | ⟨c, e1⟩
    · rcases getSet h2 with ⟨rfl, e2, l'⟩ | ⟨c', e2⟩
      · exact hn rfl
      · rw [List.getElem?_set_self (by rw [← R.len]; exact l)] at s1
        rw [List.getElem?_set_ne c'] at s2
        cases s1
        exact old k z e2 m2 s2
    · rw [List.getElem?_set_ne c] at s1
      rcases getSet h2 with ⟨rfl, e2, l'⟩ | ⟨c', e2⟩
      · rw [List.getElem?_set_self (by rw [← R.len]; exact l')] at s2
        cases s2
        exact old j y e1 (AV.mut_obj m1) s1
      · rw [List.getElem?_set_ne c'] at s2
        exact R.apart j k y z b hn e1 e2 m1 m2 s1 s2
theorem nt_lst (xs : List V) : NT (.lst xs) := ⟨fun _ q => (by cases q), fun _ _ q => (by cases q)⟩
theorem nt_dic (w : World) (a : Addr) (ks : Ents) : NT (DicN w a ks) := ⟨fun _ q => (by cases q), fun _ _ q => (by cases q)⟩
theorem Rel.setNew (R : Rel C σ H ex Γ) (R' : Rel C σ H' ex Γ) (g : Grow C H H') {i : Nat} {a : Addr} {xs : List V} {ds : List PyData} (n : H a = none) (e : H' a = some (.lst xs)) (hd : DdAll C.K (Mask H' (a :: ex)) xs ds) :
    Rel C (σ.set i (some (.ref a))) H' (a :: ex) (Γ.set i (some (.lst ds))) := R.setNewG R' g n ⟨_, e, nt_lst xs⟩ ⟨a, xs, rfl, List.mem_cons_self, R.mine n, e, hd⟩
/-- a slot's own object changed -/
theorem Rel.putX (R : Rel C σ H ex Γ) {i : Nat} {a : Addr} {x x' : AV} {o : HO} (h : Γ[i]? = some (some x)) (hm : x.mut) (s : σ[i]? = some (some (.ref a))) (ha : a ∈ ex) (hk : a ∉ C.dk) (h0 : Mine C a ∨ a ∈ C.M) (nt : NT o)
    (hx : Mask (upd H a o) ex = Mask H ex → AvAt C (upd H a o) ex (.ref a) x') : Rel C σ (upd H a o) ex (Γ.set i (some x')) ∧ Mask (upd H a o) ex = Mask H ex := by
  have em : Mask (upd H a o) ex = Mask H ex := by
    funext b
    by_cases c : b ∈ ex
    · rw [mask_in c, mask_in c]
    · rw [mask_out c, mask_out c, upd_ne (fun (z : b = a) => c (z ▸ ha))]
  refine ⟨⟨by rw [List.length_set]; exact R.len, fun j y e' => ?_, fun j k y z b hn h1 h2 m1 m2 s1 s2 => ?_, R.exs, fun b hb => ?_, fun b u nb eb => ?_, ?_⟩, em⟩
  · rcases getSet e' with ⟨rfl, e', l⟩ | ⟨c, e'⟩
    · cases e'
      exact ⟨.ref a, s, hx em⟩
    · obtain ⟨u, h1, h2⟩ := R.slot j y e'
      refine ⟨u, h1, ?_⟩
      cases y with
      | val d =>
        show Dd C.K (Mask (upd H a o) ex) u d
        rw [em]
        exact h2
      | lst d =>
        obtain ⟨a2, xs2, q1, q2, q3, q4, q5⟩ := h2
        refine ⟨a2, xs2, q1, q2, q3, ?_, by rw [em]; exact q5⟩
        rw [upd_ne (fun z => R.apart i j _ _ a c h e' hm trivial s (by rw [h1, q1, z]))]
        exact q4
      | dct lk es =>
        obtain ⟨a2, ks, q1, q2, q3, q4, q5⟩ := h2
        have ne : a2 ≠ a := fun z => R.apart i j _ _ a c h e' hm trivial s (by rw [h1, q1, z])
        refine ⟨a2, ks, q1, q2, q3, ?_, by rw [em]; exact q5⟩
        unfold Rd at q4 ⊢
        rw [upd_ne ne]
        exact q4
      | dlk es =>
        obtain ⟨a2, ks, u, q1, q2, q3, q4, q5⟩ := h2
        have ne : a2 ≠ a := fun z => R.apart i j _ _ a c h e' hm trivial s (by rw [h1, q1, z])
        refine ⟨a2, ks, u, q1, q2, q3, ?_, by rw [em]; exact q5⟩
        rw [upd_ne ne]
        exact q4
      | pdt a2 es =>
        obtain ⟨ks, q1, q2, q3, q4, q5⟩ := h2
        have ne : a2 ≠ a := fun z => R.apart i j _ _ a c h e' hm trivial s (by rw [h1, q1, z])
        refine ⟨ks, q1, q2, q3, ?_, by rw [em]; exact q5⟩
        rw [upd_ne ne]
        exact q4
      | deck => exact h2
      | raw u => exact h2
  · rcases getSet h1 with ⟨rfl, e1, l⟩ | ⟨c, e1⟩
    · rcases getSet h2 with ⟨rfl, e2, l'⟩ | ⟨c', e2⟩
      · exact hn rfl
      · exact R.apart i k _ _ b hn h e2 hm m2 s1 s2
    · rcases getSet h2 with ⟨rfl, e2, l'⟩ | ⟨c', e2⟩
      · exact R.apart j i _ _ b hn e1 h m1 (AV.mut_obj hm) s1 s2
      · exact R.apart j k y z b hn e1 e2 m1 m2 s1 s2
  · by_cases c : b = a
    · subst c
      exact ⟨_, upd_same, nt⟩
    · rw [upd_ne c]
      exact R.all b hb
  · by_cases c : b = a
    · subst c
      rcases h0 with h0 | h0
      · rw [h0.2] at eb; cases eb
      · exact absurd h0 nb
    · rw [upd_ne c]
      exact R.keep b u nb eb
  · refine C.stab H _ (fun b hb u eb => ?_) R.deck
    rw [upd_ne (fun (z : b = a) => hk (z ▸ hb))]
    exact eb
theorem Rel.put (R : Rel C σ H ex Γ) {i : Nat} {a : Addr} {xs : List V} {ds ds' : List PyData} (h : Γ[i]? = some (some (.lst ds))) (s : σ[i]? = some (some (.ref a))) (hd : DdAll C.K (Mask H ex) xs ds') :
    Rel C σ (upd H a (.lst xs)) ex (Γ.set i (some (.lst ds'))) ∧ Mask (upd H a (.lst xs)) ex = Mask H ex := by
  obtain ⟨v, h1, a', xs0, rfl, ha, na, e, _⟩ := R.slot i _ h
  rw [s] at h1; cases h1
  exact R.putX h trivial s ha (fun z => na.1 (C.dkE a z)) (.inl na) (nt_lst xs) fun em => ⟨a, xs, rfl, ha, na, upd_same, by rw [em]; exact hd⟩
end
end PV
namespace PV
open PySem PySem.Spec PyProof.Rows L2 RZ StX SrtO Kw
section
variable {C : Ctx} {σ : L2.St} {H H' : Hp} {ex : List Addr} {Γ : VEnv} {K : PySem.W.Frag} {w : World}
/-! ### a list comes to rest: no more changes -/
def frzS (Γ : VEnv) (i : Nat) : VEnv := match Γ[i]? with | some (some (.lst ds)) => Γ.set i (some (.val (.list ds))) | _ => Γ
theorem Rel.rest (R : Rel C σ H ex Γ) (i : Nat) : ∃ ex', Rel C σ H ex' (frzS Γ i) ∧ Same (Mask H ex) (Mask H ex') := by
  unfold frzS
  split
  · rename_i ds h
    obtain ⟨v, s, a, xs, rfl, ha, na, e, hd⟩ := R.slot i _ h
    have keep : ∀ b ∈ ex, b ≠ a → b ∈ ex.filter (fun b => decide (b ≠ a)) := fun b hb c => List.mem_filter.mpr ⟨hb, decide_eq_true c⟩
    have out : a ∉ ex.filter (fun b => decide (b ≠ a)) := fun z => (of_decide_eq_true (List.mem_filter.mp z).2) rfl
    have sm : Same (Mask H ex) (Mask H (ex.filter fun b => decide (b ≠ a))) := mask_same fun b o nb eb => ⟨fun z => nb (List.mem_filter.mp z).1, eb⟩
    refine ⟨ex.filter (fun b => decide (b ≠ a)), ⟨by rw [List.length_set]; exact R.len, fun j y e' => ?_, fun j k y z b hn h1 h2 m1 m2 s1 s2 => ?_, fun b hb => keep b (R.exs b hb) (fun (z : b = a) => na.1 (z ▸ hb)), fun b hb => R.all b (List.mem_filter.mp hb).1, R.keep, R.deck⟩, sm⟩
    · rcases getSet e' with ⟨rfl, e', l⟩ | ⟨c, e'⟩
      · cases e'
        exact ⟨_, s, .lst (by rw [mask_out out]; exact e) (dpa_mono sm hd)⟩
      · obtain ⟨u, h1, h2⟩ := R.slot j y e'
        refine ⟨u, h1, ?_⟩
        cases y with
        | val d => exact dp_mono sm h2
        | lst d =>
          obtain ⟨a2, xs2, q1, q2, q3, q4, q5⟩ := h2
          exact ⟨a2, xs2, q1, keep a2 q2 (fun z => R.apart i j _ _ a c h e' trivial trivial s (by rw [h1, q1, z])), q3, q4, dpa_mono sm q5⟩
        | dct lk es =>
          obtain ⟨a2, ks, q1, q2, q3, q4, q5⟩ := h2
          have ne : a2 ≠ a := fun z => by
            subst z
            cases lk with
            | true =>
              rw [if_pos rfl] at q4
              rcases q4 with q4 | ⟨o, q4⟩
              · rw [e] at q4; cases q4
              · rw [e] at q4; cases q4
            | false =>
              rw [if_neg Bool.false_ne_true, e] at q4
              cases q4.1
          exact ⟨a2, ks, q1, keep a2 q2 ne, q3, q4, paired_mono (fun _ _ => ent_mono sm) q5⟩
        | dlk es =>
          obtain ⟨a2, ks, o, q1, q2, q3, q4, q5⟩ := h2
          have ne : a2 ≠ a := fun z => by rw [z, e] at q4; cases q4
          exact ⟨a2, ks, o, q1, keep a2 q2 ne, q3, q4, paired_mono (fun _ _ => ent_mono sm) q5⟩
        | pdt a2 es =>
          obtain ⟨ks, q1, q2, q3, q4, q5⟩ := h2
          have ne : a2 ≠ a := fun z => by
            rw [z, e] at q4
            cases q4.1
          exact ⟨ks, q1, keep a2 q2 ne, q3, q4, paired_mono (fun _ _ => ent_mono sm) q5⟩
        | deck => exact h2
        | raw u => exact h2
    · rcases getSet h1 with ⟨rfl, e1, l⟩ | ⟨c, e1⟩
      · cases e1; exact m1.elim
      · rcases getSet h2 with ⟨rfl, e2, l'⟩ | ⟨c', e2⟩
        · cases e2; exact m2.elim
        · exact R.apart j k y z b hn e1 e2 m1 m2 s1 s2
  · exact ⟨ex, R, Same.refl _⟩
theorem Rel.rests : ∀ (is : List Nat) {ex : List Addr} {Γ : VEnv}, Rel C σ H ex Γ → ∃ ex', Rel C σ H ex' (is.foldl frzS Γ) ∧ Same (Mask H ex) (Mask H ex')
  | [], ex, _, R => ⟨ex, R, Same.refl _⟩
  | i :: is, ex, Γ, R => by
    obtain ⟨ex1, R1, s1⟩ := R.rest i
    obtain ⟨ex2, R2, s2⟩ := Rel.rests is R1
    exact ⟨ex2, R2, s1.trans s2⟩
end
section
variable {X : Cx} {st : Stmt} {rest : List Stmt} {ps qs : WS} {a b c e : Expr} {es : List Expr} {pos : Pos} {p q : WE} {pt : WT} {pa : WA} {K : PySem.W.Frag} {w : World}
/-- the lists of the slots come to rest ahead of the block -/
abbrev wRest (is : List Nat) (q : WS) : WS := fun E Γ => q E (is.foldl frzS Γ)
theorem qs_rest (is : List Nat) (h : QSs X rest qs) : QSs X rest (wRest is qs) := let ⟨_, a1, a2⟩ := h.ex; ⟨_, a1, fun C σ H ex Γ e1 e2 R E' hp E s => by
  obtain ⟨ex', R', m⟩ := Rel.rests is R
  exact a2 C σ H ex' _ e1 e2 R' E' hp E (s.after m)⟩
/-! ### x = e -/
variable {i : Nat} {x : Str} {pos' : Pos}
abbrev wSet (i : Nat) (p : WE) : WS := fun E Γ => p Γ fun d => E.nx (Γ.set i (some (.val d)))
theorem qs_set (i : Nat) (hN : X.N.Nodup) (hi : X.N[i]? = some x) (hx : Loc X.env.scope x) (he : QE X e p) (hs : swapsWith e (some (.Name x pos')) pos.line X.env = pure false := by rfl) (hf : X.fn x = true ∨ X.env.scope.names.lookup x = some .local := by first | exact .inl rfl | exact .inr rfl | assumption) :
    QS X (.Assign [.Name x pos'] e pos) (wSet i p) := let ⟨_, a1, a2⟩ := he.ex; ⟨_, ps_set hN hi hx a1 hs hf, fun C σ H ex Γ e1 e2 R E' hp E s => a2 C σ H ex Γ e1 e2 R _ hp _ fun v d H' R' g hd q =>
      s.nx _ H' ex _ (R'.set hd) (g.mask R) q⟩
abbrev wSetN (i : Nat) (p : WA) : WS := fun E Γ => p Γ fun ds => E.nx (Γ.set i (some (.lst ds)))
theorem qs_setN (i : Nat) (hN : X.N.Nodup) (hi : X.N[i]? = some x) (hx : Loc X.env.scope x) (he : QN X e pa) (hs : swapsWith e (some (.Name x pos')) pos.line X.env = pure false := by rfl) (hf : X.fn x = true ∨ X.env.scope.names.lookup x = some .local := by first | exact .inl rfl | exact .inr rfl | assumption) :
    QS X (.Assign [.Name x pos'] e pos) (wSetN i pa) := let ⟨_, a1, a2⟩ := he.ex; ⟨_, ps_set hN hi hx a1 hs hf, fun C σ H ex Γ e1 e2 R E' hp E s => a2 C σ H ex Γ e1 e2 R _ hp _ fun a xs ds H' R' g n eq hd q =>
      s.nx _ H' (a :: ex) _ (R.setNew R' g n eq hd) ((mask_same fun b o nb eb => ⟨fun z => by
        rcases List.mem_cons.mp z with z | z
        · rw [z, n] at eb; cases eb
        · exact nb z, g b o (R.nodk nb) eb⟩)) q⟩
/-- x op= e, of ints or texts -/
abbrev wAug (i : Nat) (o : OpW) (p : WE) : WS := fun E Γ => slotV Γ i fun x => p Γ fun y => o x y fun z => E.nx (Γ.set i (some (.val z)))
theorem qs_aug (i : Nat) {op : Operator} {r : TIp} {o : OpW} (hN : X.N.Nodup) (hi : X.N[i]? = some x) (hx : Loc X.env.scope x) (he : QB X e p) (ho : PIp X op r) (lo : LO X.K X.w r o) (hf : X.fn x = true ∨ X.env.scope.names.lookup x = some .local := by first | exact .inl rfl | exact .inr rfl | assumption) :
    QS X (.AugAssign (.Name x pos') op e pos) (wAug i o p) := let ⟨_, a1, a2⟩ := he.ex; ⟨_, ps_aug hN hi hx a1 ho hf, fun C σ H ex Γ e1 e2 R E' hp E s => by
  obtain ⟨dx, ex', q⟩ := slotV_of hp
  obtain ⟨v, ev, hd⟩ := R.slot i _ ex'
  refine ⟨v, ev, a2 C σ H ex Γ e1 e2 R _ q _ fun y dy H' R' g hy q' => lo C σ H' ex Γ v y dx dy e1 e2 R' (DB.grow R g (.inl hd)) hy _ q' _ fun z dz H2 R2 g2 hz q2 => ?_⟩
  exact s.nx _ H2 ex _ (R2.set hz) ((g.trans g2).mask R) q2⟩
/-! ### targets -/
abbrev WG := PyData → VEnv → (VEnv → Prop) → Prop
abbrev WGs := List PyData → VEnv → (VEnv → Prop) → Prop
def LG (K : PySem.W.Frag) (w : World) (t : TG) (p : WG) : Prop :=
  ∀ (C : Ctx) (σ : L2.St) (H : Hp) (ex : List Addr) (Γ : VEnv) (v : V) (d : PyData), C.K = K → C.w = w → Rel C σ H ex Γ → Dd C.K (Mask H ex) v d → ∀ Q' : VEnv → Prop, p d Γ Q' → ∀ Q : L2.St → Hp → Prop,
    (∀ σ' H' ex' Γ', Rel C σ' H' ex' Γ' → Same (Mask H ex) (Mask H' ex') → Q' Γ' → Q σ' H') → t v σ H Q
/-- names alone: of the slots vs -/
def LGn (K : PySem.W.Frag) (vs : List Nat) (t : TG) (p : WG) : Prop :=
  ∀ (C : Ctx) (σ : L2.St) (H : Hp) (ex : List Addr) (Γ : VEnv) (v : V) (d : PyData), C.K = K → Rel C σ H ex Γ → Dd C.K (Mask H ex) v d → ∀ Q' : VEnv → Prop, p d Γ Q' → ∀ Q : L2.St → Hp → Prop,
    (∀ σ' Γ', Rel C σ' H ex Γ' → wipe σ' vs = wipe σ vs → Q' Γ' → Q σ' H) → t v σ H Q
def LGns (K : PySem.W.Frag) (vs : List Nat) (t : TGs) (p : WGs) : Prop :=
  ∀ (C : Ctx) (σ : L2.St) (H : Hp) (ex : List Addr) (Γ : VEnv) (v : List V) (d : List PyData), C.K = K → Rel C σ H ex Γ → DdAll C.K (Mask H ex) v d → ∀ Q' : VEnv → Prop, p d Γ Q' → ∀ Q : L2.St → Hp → Prop,
    (∀ σ' Γ', Rel C σ' H ex Γ' → wipe σ' vs = wipe σ vs → Q' Γ' → Q σ' H) → t v σ H Q
theorem LGn.g {vs : List Nat} {t : TG} {p : WG} (h : LGn K vs t p) : LG K w t p := fun C σ H ex Γ v d e1 e2 R hd Q' hp Q k => h C σ H ex Γ v d e1 R hd Q' hp Q fun σ' Γ' R' _ q => k σ' H ex Γ' R' (Same.refl _) q
abbrev wgName (i : Nat) : WG := fun d Γ Q => Q (Γ.set i (some (.val d)))
def wgTup (p : WGs) : WG := fun d Γ Q => match d with | .tuple ds => p ds Γ Q | _ => False
def wgNil : WGs := fun ds Γ Q => match ds with | [] => Q Γ | _ => False
def wgCons (p : WG) (r : WGs) : WGs := fun ds Γ Q => match ds with | d :: ds => p d Γ fun Γ' => r ds Γ' Q | [] => False
theorem wipe_set {σ : L2.St} {i : Nat} {x : Option V} : ∀ {vs : List Nat}, i ∈ vs → wipe (σ.set i x) vs = wipe σ vs
  | [], h => absurd h List.not_mem_nil
  | v :: vs, h => by
    have comm : ∀ (vs : List Nat) (σ : L2.St), i ∉ vs → wipe (σ.set i x) vs = (wipe σ vs).set i x := by
      intro vs
      induction vs with
      | nil => intro σ _; rfl
      | cons u us ih =>
        intro σ hn
        unfold wipe
        rw [ih σ (fun z => hn (List.mem_cons_of_mem _ z)), List.set_comm _ _ (fun (z : i = u) => hn (z ▸ List.mem_cons_self))]
    unfold wipe
    by_cases c : i ∈ vs
    · rw [wipe_set c]
    · rcases List.mem_cons.mp h with rfl | h
      · rw [comm vs σ c, List.set_set]
      · exact absurd h c
theorem lgn_name {vs : List Nat} {i : Nat} (hi : i ∈ vs) : LGn K vs (gName i) (wgName i) := fun C σ H ex Γ v d _ R hd Q' hp Q k => k _ _ (R.set hd) (wipe_set hi) hp
theorem lgns_nil {vs : List Nat} : LGns K vs gNil wgNil := fun C σ H ex Γ v d _ R hd Q' hp Q k => by
  cases hd with
  | nil => exact ⟨rfl, k σ Γ R rfl hp⟩
  | cons a b => exact hp.elim
theorem lgns_cons {vs : List Nat} {t : TG} {u : TGs} {p : WG} {r : WGs} (h1 : LGn K vs t p) (h2 : LGns K vs u r) : LGns K vs (gCons t u) (wgCons p r) := fun C σ H ex Γ v d eK R hd Q' hp Q k => by
  cases hd with
  | nil => exact hp.elim
  | cons a b => exact ⟨_, _, rfl, h1 C σ H ex Γ _ _ eK R a _ hp _ fun σ' Γ' R' e q => h2 C σ' H ex Γ' _ _ eK R' b _ q _ fun σ2 Γ2 R2 e2 q2 => k σ2 Γ2 R2 (e2.trans e) q2⟩
structure QG (X : Cx) (tg : Expr) (p : WG) : Prop where
  ex : ∃ t, PG X tg t ∧ LG X.K X.w t p
/-- a target of names, of the slots vs -/
structure QGn (X : Cx) (K : PySem.W.Frag) (vs : List Nat) (tg : Expr) (t : TG) (p : WG) : Prop where
  pg : PG X tg t
  lg : LGn K vs t p
  det : ∀ d Γ Q, p d Γ Q → ∃ Γ', Q Γ'
structure QGns (X : Cx) (K : PySem.W.Frag) (vs : List Nat) (tg : List Expr) (t : TGs) (p : WGs) : Prop where
  pg : PGs X tg t
  lg : LGns K vs t p
  det : ∀ d Γ Q, p d Γ Q → d.length = tg.length ∧ ∃ Γ', Q Γ'
theorem QGn.g {tg : Expr} {vs : List Nat} {t : TG} {p : WG} (h : QGn X X.K vs tg t p) : QG X tg p := ⟨t, h.pg, h.lg.g⟩
theorem qg_name (i : Nat) {vs : List Nat} (hN : X.N.Nodup) (hi : X.N[i]? = some x) (hx : Loc X.env.scope x) (hf : X.fn x = true ∨ X.env.scope.names.lookup x = some .local := by first | exact .inl rfl | exact .inr rfl | assumption) (hv : i ∈ vs := by decide) :
    QGn X K vs (.Name x pos) (gName i) (wgName i) := ⟨pg_name hN hi hx hf, lgn_name hv, fun _ _ _ h => ⟨_, h⟩⟩
theorem qgs_nil {vs : List Nat} : QGns X K vs [] gNil wgNil := ⟨pgs_nil, lgns_nil, fun d Γ Q h => by
  cases d with
  | nil => exact ⟨rfl, Γ, h⟩
  | cons a b => exact h.elim⟩
theorem qgs_cons {vs : List Nat} {t : TG} {u : TGs} {g : WG} {r : WGs} (h1 : QGn X K vs a t g) (h2 : QGns X K vs es u r) (hs : (assignEach (a :: es) X.env).map (·.2) = assign a X.env :: (assignEach es X.env).map (·.2) := by rfl) : QGns X K vs (a :: es) (gCons t u) (wgCons g r) :=
  ⟨pgs_cons h1.pg h2.pg hs, lgns_cons h1.lg h2.lg, fun d Γ Q h => by
  cases d with
  | nil => exact h.elim
  | cons d ds =>
    obtain ⟨Γ1, h⟩ := h1.det _ _ _ h
    obtain ⟨l, h⟩ := h2.det _ _ _ h
    exact ⟨by rw [List.length_cons, List.length_cons, l], h⟩⟩
theorem qg_tup {vs : List Nat} {k : Nat} {t : TGs} {r : WGs} (h : QGns X K vs es t r) (hc : X.calm = true := by rfl) (hn : (assignEach es X.env).length = es.length := by rfl) (hst : (assignEach es X.env).findIdx? (·.1) = none := by rfl) (hK : X.K = K := by rfl) : QGn X K vs (.Tuple es k pos) (gTup K es.length t) (wgTup r) := by
  subst hK
  refine ⟨pg_tup hc h.pg hn hst, fun C σ H ex Γ v d eK R hd Q' hp Q k => ?_, fun d Γ Q hp => ?_⟩
  · unfold wgTup at hp
    split at hp
    · cases hd with
      | tup a b => exact ⟨_, _, rfl, eK ▸ (mask_le H ex).sqt a, by rw [dpa_len b]; exact (h.det _ _ _ hp).1, h.lg C σ H ex Γ _ _ eK R b _ hp _ k⟩
    · exact hp.elim
  · unfold wgTup at hp
    split at hp
    · exact (h.det _ _ _ hp).2
    · exact hp.elim
abbrev wAsg (p : WE) (g : WG) : WS := fun E Γ => p Γ fun d => g d Γ E.nx
theorem qs_asg {tg : Expr} {g : WG} (he : QE X e p) (hg : QG X tg g) (hs : swapsWithSole [tg] e pos.line X.env = pure false := by rfl) (hw : swappedStores [tg] e X.env = pure none := by rfl)
    (h1 : (assignEach [tg] X.env).map (·.2) = [assign tg X.env] := by rfl) : QS X (.Assign [tg] e pos) (wAsg p g) := let ⟨_, a1, a2⟩ := he.ex; let ⟨_, g1, g2⟩ := hg.ex; ⟨_, ps_asg a1 g1 hs hw h1, fun C σ H ex Γ e1 e2 R E' hp E s =>
      a2 C σ H ex Γ e1 e2 R _ hp _ fun v d H' R' g hd q => g2 C σ H' ex Γ v d e1 e2 R' hd _ q _ fun σ2 H2 ex2 Γ2 R2 m q2 => s.nx σ2 H2 ex2 Γ2 R2 ((g.mask R).trans m) q2⟩
end
end PV
namespace PV
open PySem PySem.Spec PyProof.Rows L2 RZ StX SrtO Kw
/-! ### slots told anew -/
section
variable {C : Ctx} {σ σ' : L2.St} {H H' : Hp} {ex : List Addr} {Γ Γ' : VEnv} {K : PySem.W.Frag} {w : World}
theorem Rel.reix (R : Rel C σ H ex Γ) (f : Nat → Nat) (len : Γ'.length = σ'.length) (h : ∀ i x, Γ'[i]? = some (some x) → Γ[f i]? = some (some x) ∧ σ'[i]? = σ[f i]?)
    (inj : ∀ i j x y, Γ'[i]? = some (some x) → Γ'[j]? = some (some y) → f i = f j → i = j) : Rel C σ' H ex Γ' where
  len := len
  slot := fun i x e => by
    obtain ⟨h1, h2⟩ := h i x e
    obtain ⟨v, h3, h4⟩ := R.slot _ x h1
    exact ⟨v, h2.trans h3, h4⟩
  apart := fun i j x y a hn h1 h2 m1 m2 s1 s2 => by
    obtain ⟨a1, a2⟩ := h i x h1
    obtain ⟨b1, b2⟩ := h j y h2
    exact R.apart (f i) (f j) x y a (fun z => hn (inj i j x y h1 h2 z)) a1 b1 m1 m2 (a2 ▸ s1) (b2 ▸ s2)
  exs := R.exs
  all := R.all
  keep := R.keep
  deck := R.deck
theorem Rel.with {σ2 : L2.St} {ex2 : List Addr} {Γ2 : VEnv} (R : Rel C σ H ex Γ) (R2 : Rel C σ2 H' ex2 Γ2) (g : Grow C H H') : Rel C σ H' ex Γ := R.grow g R2.deck fun a ha => R2.all a (R2.exs a (C.dkE a ha))
/-- what is left out is forgotten -/
theorem Rel.less {τ : L2.St} {Δ : VEnv} (R : Rel C (σ ++ τ) H ex (Γ ++ Δ)) (len : Γ.length = σ.length) : Rel C σ H ex Γ := R.reix id len (fun i x e => by
  have l : i < Γ.length := (List.getElem?_eq_some_iff.mp e).1
  exact ⟨by rw [show id i = i from rfl, List.getElem?_append_left l]; exact e, by rw [show id i = i from rfl, List.getElem?_append_left (by omega)]⟩) fun i j _ _ _ _ e => e
def wipeE (Γ : VEnv) : List Nat → VEnv
  | [] => Γ
  | v :: vs => (wipeE Γ vs).set v none
theorem wipeE_length (Γ : VEnv) : ∀ vs : List Nat, (wipeE Γ vs).length = Γ.length
  | [] => rfl
  | v :: vs => by unfold wipeE; rw [List.length_set, wipeE_length Γ vs]
theorem wipeE_some {i : Nat} {x : AV} : ∀ {vs : List Nat}, (wipeE Γ vs)[i]? = some (some x) → Γ[i]? = some (some x) ∧ (wipe σ vs)[i]? = σ[i]?
  | [], h => ⟨h, rfl⟩
  | v :: vs, h => by
    unfold wipeE at h
    rcases getSet h with ⟨_, e, _⟩ | ⟨c, e⟩
    · cases e
    · obtain ⟨h1, h2⟩ := wipeE_some e
      refine ⟨h1, ?_⟩
      unfold wipe
      rw [List.getElem?_set_ne c]
      exact h2
theorem Rel.wipe (R : Rel C σ H ex Γ) (vs : List Nat) : Rel C (L2.wipe σ vs) H ex (wipeE Γ vs) := R.reix id (by rw [wipeE_length, wipe_length]; exact R.len) (fun i x e => wipeE_some e) fun i j _ _ _ _ e => e
theorem wipe_idem (σ : L2.St) (vs : List Nat) : wipe (wipe σ vs) vs = wipe σ vs := by
  apply List.ext_getElem?
  intro i
  have key : ∀ (us : List Nat) (τ : L2.St), (wipe τ us)[i]? = if i ∈ us ∧ i < τ.length then some none else τ[i]? := by
    intro us
    induction us with
    | nil => intro τ; simp [wipe]
    | cons u us ih =>
      intro τ
      unfold wipe
      by_cases c : u = i
      · subst c
        by_cases l : u < τ.length
        · rw [List.getElem?_set_self (by rw [wipe_length]; exact l), if_pos ⟨List.mem_cons_self, l⟩]
        · rw [List.getElem?_eq_none (by rw [List.length_set, wipe_length]; omega), if_neg (fun z => l z.2), List.getElem?_eq_none (by omega)]
      · rw [List.getElem?_set_ne c, ih τ]
        by_cases d : i ∈ us ∧ i < τ.length
        · rw [if_pos d, if_pos ⟨List.mem_cons_of_mem _ d.1, d.2⟩]
        · rw [if_neg d, if_neg (fun z => d ⟨(List.mem_cons.mp z.1).resolve_left (fun e => c e.symm), z.2⟩)]
  rw [key vs (wipe σ vs), key vs σ, wipe_length]
  by_cases d : i ∈ vs ∧ i < σ.length
  · rw [if_pos d, if_pos d]
  · rw [if_neg d, if_neg d]
/-- a new slot behind, with a new list -/
theorem Rel.dummy (R : Rel C σ H ex Γ) : Rel C (σ ++ [none]) H ex (Γ ++ [none]) := R.reix id (by rw [List.length_append, List.length_append, R.len]; rfl) (fun i x e => by
  by_cases l : i < Γ.length
  · rw [List.getElem?_append_left l] at e
    exact ⟨e, by rw [List.getElem?_append_left (by rw [← R.len]; exact l)]; rfl⟩
  · rw [List.getElem?_append_right (by omega)] at e
    cases q : i - Γ.length with
    | zero => rw [q] at e; cases e
    | succ k => rw [q] at e; cases e) fun i j _ _ _ _ e => e
theorem set_end {α : Type} (l : List α) (x y : α) : (l ++ [x]).set l.length y = l ++ [y] := by
  rw [List.set_append_right _ _ (Nat.le_refl _), Nat.sub_self]
  rfl
theorem Rel.pushNew (R : Rel C σ H ex Γ) (R' : Rel C σ H' ex Γ) (g : Grow C H H') {a : Addr} {xs : List V} {ds : List PyData} (n : H a = none) (e : H' a = some (.lst xs)) (hd : DdAll C.K (Mask H' (a :: ex)) xs ds) :
    Rel C (σ ++ [some (.ref a)]) H' (a :: ex) (Γ ++ [some (.lst ds)]) := by
  have := R.dummy.setNew R'.dummy g (i := σ.length) n e hd
  rw [set_end] at this
  rw [← R.len, set_end] at this
  exact this
theorem Rel.push (R : Rel C σ H ex Γ) {v : V} {d : PyData} (hd : Dd C.K (Mask H ex) v d) : Rel C (σ ++ [some v]) H ex (Γ ++ [some (.val d)]) := by
  have := R.dummy.set (i := σ.length) hd
  rw [set_end] at this
  rw [← R.len, set_end] at this
  exact this
/-- the first slot behind moved to the place i -/
theorem Rel.pop {s : Option V} {x : Option AV} {τ : L2.St} {Δ : VEnv} (R : Rel C (σ ++ s :: τ) H ex (Γ ++ x :: Δ)) (len : Γ.length = σ.length) (i : Nat) : Rel C (σ.set i s ++ τ) H ex (Γ.set i x ++ Δ) := by
  have tl : Δ.length = τ.length := by
    have := R.len
    simp only [List.length_append, List.length_cons] at this
    omega
  have f1 : ∀ k, k < σ.length → k = i → (if k < σ.length then (if k = i then σ.length else k) else k + 1) = σ.length := fun k l c => by rw [if_pos l, if_pos c]
  have f2 : ∀ k, k < σ.length → k ≠ i → (if k < σ.length then (if k = i then σ.length else k) else k + 1) = k := fun k l c => by rw [if_pos l, if_neg c]
  have f3 : ∀ k, ¬ k < σ.length → (if k < σ.length then (if k = i then σ.length else k) else k + 1) = k + 1 := fun k l => by rw [if_neg l]
  refine R.reix (fun k => if k < σ.length then (if k = i then σ.length else k) else k + 1) (by simp only [List.length_append, List.length_set]; omega) (fun k y e => ?_) fun k j _ _ h1 h2 e => ?_
  · by_cases l : k < σ.length
    · have e1 : (Γ.set i x ++ Δ)[k]? = (Γ.set i x)[k]? := List.getElem?_append_left (by rw [List.length_set]; omega)
      have e2 : (σ.set i s ++ τ)[k]? = (σ.set i s)[k]? := List.getElem?_append_left (by rw [List.length_set]; omega)
      rw [e1] at e
      rw [e2]
      rcases getSet e with ⟨c, e', _⟩ | ⟨c, e'⟩
      · subst c
        rw [f1 _ l rfl]
        have a1 : (Γ ++ x :: Δ)[σ.length]? = some x := by
          rw [← len, List.getElem?_append_right (Nat.le_refl _), Nat.sub_self]
          rfl
        have a2 : (σ ++ s :: τ)[σ.length]? = some s := by
          rw [List.getElem?_append_right (Nat.le_refl _), Nat.sub_self]
          rfl
        rw [a1, a2, List.getElem?_set_self l]
        exact ⟨by rw [e'], rfl⟩
      · rw [f2 _ l (Ne.symm c), List.getElem?_set_ne c, List.getElem?_append_left (by omega), List.getElem?_append_left l]
        exact ⟨e', rfl⟩
    · have e1 : (Γ.set i x ++ Δ)[k]? = Δ[k - Γ.length]? := by rw [List.getElem?_append_right (by rw [List.length_set]; omega), List.length_set]
      have e2 : (σ.set i s ++ τ)[k]? = τ[k - σ.length]? := by rw [List.getElem?_append_right (by rw [List.length_set]; omega), List.length_set]
      rw [e1] at e
      rw [e2, f3 _ l, List.getElem?_append_right (by omega), List.getElem?_append_right (by omega), show k + 1 - Γ.length = (k - Γ.length) + 1 by omega, show k + 1 - σ.length = (k - σ.length) + 1 by omega, List.getElem?_cons_succ, List.getElem?_cons_succ]
      exact ⟨e, rfl⟩
  · by_cases l1 : k < σ.length
    · by_cases c1 : k = i
      · rw [f1 k l1 c1] at e
        by_cases l2 : j < σ.length
        · by_cases c2 : j = i
          · omega
          · rw [f2 j l2 c2] at e; omega
        · rw [f3 j l2] at e; omega
      · rw [f2 k l1 c1] at e
        by_cases l2 : j < σ.length
        · by_cases c2 : j = i
          · rw [f1 j l2 c2] at e; omega
          · rw [f2 j l2 c2] at e; omega
        · rw [f3 j l2] at e; omega
    · rw [f3 k l1] at e
      by_cases l2 : j < σ.length
      · by_cases c2 : j = i
        · rw [f1 j l2 c2] at e; omega
        · rw [f2 j l2 c2] at e; omega
      · rw [f3 j l2] at e; omega
def setAll {α : Type} : List α → List Nat → List α → List α
  | l, i :: is, x :: xs => setAll (l.set i x) is xs
  | l, _, _ => l
theorem Rel.pops : ∀ (is : List Nat) {σ : L2.St} {Γ : VEnv} (ss : List (Option V)) (xs : List (Option AV)), Rel C (σ ++ ss) H ex (Γ ++ xs) → Γ.length = σ.length → is.length = xs.length → ss.length = xs.length → Rel C (setAll σ is ss) H ex (setAll Γ is xs)
  | [], σ, Γ, ss, xs, R, _, h1, h2 => by
    obtain rfl : xs = [] := List.eq_nil_of_length_eq_zero h1.symm
    obtain rfl : ss = [] := List.eq_nil_of_length_eq_zero h2
    rw [List.append_nil, List.append_nil] at R
    exact R
  | _ :: _, _, _, _, [], _, _, h, _ => by cases h
  | _ :: _, _, _, [], _ :: _, _, _, _, h => by cases h
  | i :: is, σ, Γ, s :: ss, x :: xs, R, l, l1, l2 => by
    unfold setAll
    exact Rel.pops is ss xs (R.pop l i) (by rw [List.length_set, List.length_set]; exact l) (by simpa using l1) (by simpa using l2)
end
end PV
namespace PV
open PySem PySem.Spec PyProof.Rows L2 RZ StX SrtO Kw
/-! ### several values at once, new lists among them -/
abbrev WAO := VEnv → (List AV → Prop) → Prop
def LAO (K : PySem.W.Frag) (w : World) (t : TA) (p : WAO) : Prop :=
  ∀ (C : Ctx) (σ τ : L2.St) (H : Hp) (ex : List Addr) (Γ Δ : VEnv), C.K = K → C.w = w → Rel C (σ ++ τ) H ex (Γ ++ Δ) → Γ.length = σ.length → ∀ Q' : List AV → Prop, p Γ Q' → ∀ Q : List V → Hp → Prop,
    (∀ vs as H' ex', Rel C (σ ++ (τ ++ vs.map some)) H' ex' (Γ ++ (Δ ++ as.map some)) → vs.length = as.length → Same (Mask H ex) (Mask H' ex') → Q' as → Q vs H') → t σ H Q
structure QAO (X : Cx) (es : List Expr) (p : WAO) : Prop where
  ex : ∃ t, PA X es t ∧ LAO X.K X.w t p
abbrev wNilO : WAO := fun _ Q => Q []
abbrev wConsV (p : WE) (r : WAO) : WAO := fun Γ Q => p Γ fun d => r Γ fun as => Q (.val d :: as)
abbrev wConsN (p : WA) (r : WAO) : WAO := fun Γ Q => p Γ fun ds => r Γ fun as => Q (.lst ds :: as)
section
variable {X : Cx} {a b c e : Expr} {es : List Expr} {pos : Pos} {p q : WE} {pa : WA} {po : WAO} {K : PySem.W.Frag} {w : World}
theorem mask_ext {C : Ctx} {σ : L2.St} {H H' : Hp} {ex : List Addr} {Γ : VEnv} (R : Rel C σ H ex Γ) (g : Grow C H H') {a : Addr} (n : H a = none) : Same (Mask H ex) (Mask H' (a :: ex)) := mask_same fun b o nb eb => ⟨fun z => by
  rcases List.mem_cons.mp z with z | z
  · rw [z, n] at eb; cases eb
  · exact nb z, g b o (R.nodk nb) eb⟩
theorem qao_nil : QAO X [] wNilO := ⟨_, pa_nil, fun C σ τ H ex Γ Δ e1 e2 R l Q' hp Q k => k [] [] H ex (by rw [List.map_nil, List.map_nil, List.append_nil, List.append_nil]; exact R) rfl (Same.refl _) hp⟩
theorem qao_v (ha : QE X a p) (hr : QAO X es po) (hs : starEach (a :: es) X.env = (false, eval a X.env) :: starEach es X.env := by rfl) : QAO X (a :: es) (wConsV p po) :=
  let ⟨_, a1, a2⟩ := ha.ex; let ⟨_, r1, r2⟩ := hr.ex; ⟨_, pa_cons a1 r1 hs, fun C σ τ H ex Γ Δ e1 e2 R l Q' hp Q k => a2 C σ H ex Γ e1 e2 (R.less l) _ hp _ fun v d H1 R1 g1 d1 q1 => by
    have P := (R.with R1 g1).push d1
    rw [List.append_assoc, List.append_assoc] at P
    refine r2 C σ _ H1 ex Γ _ e1 e2 P l _ q1 _ fun vs as H2 ex2 R2 l2 m q2 => ?_
    refine k _ _ H2 ex2 ?_ (by simp [l2]) ((g1.mask R).trans m) q2
    rw [List.append_assoc, List.append_assoc] at R2
    exact R2⟩
theorem qao_n (ha : QN X a pa) (hr : QAO X es po) (hs : starEach (a :: es) X.env = (false, eval a X.env) :: starEach es X.env := by rfl) : QAO X (a :: es) (wConsN pa po) :=
  let ⟨_, a1, a2⟩ := ha.ex; let ⟨_, r1, r2⟩ := hr.ex; ⟨_, pa_cons a1 r1 hs, fun C σ τ H ex Γ Δ e1 e2 R l Q' hp Q k => a2 C σ H ex Γ e1 e2 (R.less l) _ hp _ fun a xs ds H1 R1 g1 n1 h1 d1 q1 => by
    have P := R.pushNew (R.with R1 g1) g1 n1 h1 d1
    rw [List.append_assoc, List.append_assoc] at P
    refine r2 C σ _ H1 _ Γ _ e1 e2 P l _ q1 _ fun vs as H2 ex2 R2 l2 m q2 => ?_
    refine k _ _ H2 ex2 ?_ (by simp [l2]) ((mask_ext R g1 n1).trans m) q2
    rw [List.append_assoc, List.append_assoc] at R2
    exact R2⟩
/-- what is needed at the start and the end -/
theorem LAO.go {t : TA} (h : LAO K w t po) {C : Ctx} {σ : L2.St} {H : Hp} {ex : List Addr} {Γ : VEnv} (e1 : C.K = K) (e2 : C.w = w) (R : Rel C σ H ex Γ) {Q' : List AV → Prop} (hp : po Γ Q') {Q : List V → Hp → Prop}
    (k : ∀ vs as H' ex', Rel C (σ ++ vs.map some) H' ex' (Γ ++ as.map some) → vs.length = as.length → Same (Mask H ex) (Mask H' ex') → Q' as → Q vs H') : t σ H Q := by
  refine h C σ [] H ex Γ [] e1 e2 (by rw [List.append_nil, List.append_nil]; exact R) R.len _ hp _ fun vs as H' ex' R' l m q => k vs as H' ex' (by simpa using R') l m q
/-- a, b = x, y -/
abbrev wPar (is : List Nat) (p : WAO) : WS := fun E Γ => p Γ fun as => as.length = is.length ∧ E.nx (setAll Γ is (as.map some))
theorem qs_par {i j : Nat} {x y : Str} {px py pt pos : Pos} {kt k2 pt2} (hN : X.N.Nodup) (hi : X.N[i]? = some x) (hj : X.N[j]? = some y) (hij : i ≠ j)
    (hx : X.env.scope.names.lookup x = some .local) (hy : X.env.scope.names.lookup y = some .local) (ha : QAO X [a, b] po)
    (hw : swappedStores [.Tuple [.Name x px, .Name y py] kt pt] (.Tuple [a, b] k2 pt2) X.env = pure (some [x, y]))
    (hs : swapsWithSole [.Tuple [.Name x px, .Name y py] kt pt] (.Tuple [a, b] k2 pt2) pos.line X.env = pure false := by rfl) (hc : X.calm = true := by rfl) :
    QS X (.Assign [.Tuple [.Name x px, .Name y py] kt pt] (.Tuple [a, b] k2 pt2) pos) (wPar [i, j] po) := let ⟨_, a1, a2⟩ := ha.ex; ⟨_, ps_par hc hN hi hj hij hx hy a1 hw hs, fun C σ H ex Γ e1 e2 R E' hp E s => by
  refine a2.go e1 e2 R hp fun vs as H' ex' R' l m q => ?_
  obtain ⟨l2, q⟩ := q
  match as, l2 with
  | [x1, x2], _ =>
    match vs, l with
    | [v1, v2], _ => exact ⟨v1, v2, rfl, s.nx _ H' ex' _ (Rel.pops [i, j] [some v1, some v2] _ R' R.len rfl rfl) m q⟩⟩
theorem qs_par3 {i j l : Nat} {x y z : Str} {px py pz pt pos : Pos} {kt k2 pt2} (hN : X.N.Nodup) (hi : X.N[i]? = some x) (hj : X.N[j]? = some y) (hl : X.N[l]? = some z) (hij : i ≠ j) (hil : i ≠ l) (hjl : j ≠ l)
    (hx : X.env.scope.names.lookup x = some .local) (hy : X.env.scope.names.lookup y = some .local) (hz : X.env.scope.names.lookup z = some .local) (ha : QAO X [a, b, c] po)
    (hw : swappedStores [.Tuple [.Name x px, .Name y py, .Name z pz] kt pt] (.Tuple [a, b, c] k2 pt2) X.env = pure (some [x, y, z]))
    (hs : swapsWithSole [.Tuple [.Name x px, .Name y py, .Name z pz] kt pt] (.Tuple [a, b, c] k2 pt2) pos.line X.env = pure false := by rfl) (hc : X.calm = true := by rfl) :
    QS X (.Assign [.Tuple [.Name x px, .Name y py, .Name z pz] kt pt] (.Tuple [a, b, c] k2 pt2) pos) (wPar [i, j, l] po) := let ⟨_, a1, a2⟩ := ha.ex; ⟨_, ps_par3 hc hN hi hj hl hij hil hjl hx hy hz a1 hw hs, fun C σ H ex Γ e1 e2 R E' hp E s => by
  refine a2.go e1 e2 R hp fun vs as H' ex' R' l0 m q => ?_
  obtain ⟨l2, q⟩ := q
  match as, l2 with
  | [x1, x2, x3], _ =>
    match vs, l0 with
    | [v1, v2, v3], _ => exact ⟨v1, v2, v3, rfl, s.nx _ H' ex' _ (Rel.pops [i, j, l] [some v1, some v2, some v3] _ R' R.len rfl rfl) m q⟩⟩
def gNames : List Nat → TGs
  | [] => gNil
  | i :: is => gCons (gName i) (gNames is)
theorem gNames_go : ∀ (is : List Nat) (vs : List V) (σ : L2.St) (H : Hp) (Q : L2.St → Hp → Prop), vs.length = is.length → Q (setAll σ is (vs.map some)) H → gNames is vs σ H Q
  | [], [], σ, H, Q, _, q => ⟨rfl, q⟩
  | i :: is, v :: vs, σ, H, Q, l, q => ⟨v, vs, rfl, gNames_go is vs _ H Q (by simpa using l) q⟩
/-- a pair (or more) made and taken apart again -/
theorem qs_asgN (is : List Nat) {tgs : List Expr} {k1 k2 : Nat} {p1 p2 pos : Pos} (ha : QAO X es po) (hg : PGs X tgs (gNames is)) (hz : is.length ≤ 1000 := by decide) (hc : X.calm = true := by rfl) (hn : (assignEach tgs X.env).length = is.length := by rfl) (hst : (assignEach tgs X.env).findIdx? (·.1) = none := by rfl)
    (hs : swapsWithSole [.Tuple tgs k1 p1] (.Tuple es k2 p2) pos.line X.env = pure false := by rfl) (hw : swappedStores [.Tuple tgs k1 p1] (.Tuple es k2 p2) X.env = pure none := by rfl)
    (h1 : (assignEach [.Tuple tgs k1 p1] X.env).map (·.2) = [assign (.Tuple tgs k1 p1) X.env] := by rfl) :
    QS X (.Assign [.Tuple tgs k1 p1] (.Tuple es k2 p2) pos) (wPar is po) := let ⟨_, a1, a2⟩ := ha.ex; ⟨_, ps_asg (pe_tup a1) (pg_tup hc hg hn hst) hs hw h1, fun C σ H ex Γ e1 e2 R E' hp E s => by
  refine a2.go e1 e2 R hp fun vs as H' ex' R' l0 m q => ?_
  obtain ⟨l2, q⟩ := q
  refine ⟨by rw [l0, l2]; exact Nat.le_of_lt (small1000 hz), fun t nt => ⟨t, vs, rfl, SqT.of upd_same, l0.trans l2, gNames_go is vs _ _ _ (l0.trans l2) ?_⟩⟩
  have R2 := Rel.pops is (vs.map some) (as.map some) R' R.len (by simp [l2]) (by simp [l0])
  exact s.nx _ _ ex' _ (R2.new nt _) (m.trans (Grow.mask R2 (.of (same_new nt _)))) q⟩
/-! ### lists that change -/
def slotL (Γ : VEnv) (i : Nat) (Q : List PyData → Prop) : Prop := match Γ[i]? with | some (some (.lst ds)) => Q ds | _ => False
theorem slotL_of {Γ : VEnv} {i : Nat} {Q : List PyData → Prop} (h : slotL Γ i Q) : ∃ ds, Γ[i]? = some (some (.lst ds)) ∧ Q ds := by
  unfold slotL at h
  split at h
  · rename_i ds e; exact ⟨ds, e, h⟩
  · exact h.elim
variable {x : Str} {xpos apos cpos : Pos}
/-- x.append(e) -/
abbrev wAppend (i : Nat) (p : WE) : WS := fun E Γ => slotL Γ i fun ds => p Γ fun d => ds.length < sizeLine ∧ E.nx (Γ.set i (some (.lst (ds ++ [d]))))
theorem ls_append (i : Nat) {te : TE} (h : LE K w te p) : LS K w (tDrop (tBM K "list" rAppend (tVar i) (tCons te tNil))) (wAppend i p) := fun C σ H ex Γ e1 e2 R E' hp E s => by
  obtain ⟨ds, g, hp⟩ := slotL_of hp
  obtain ⟨v, sv, a, xs0, rfl, ha, na, e0, hd0⟩ := R.slot i _ g
  refine ⟨_, sv, .inl ⟨rfl, xs0, .of e0⟩, h C σ H ex Γ e1 e2 R _ hp _ fun v d H1 R1 g1 d1 q1 => ?_⟩
  obtain ⟨v', sv', a', xs, rfl, ha', na', e1', hd⟩ := R1.slot i _ g
  rw [sv] at sv'
  cases sv'
  have := R1.put (xs := xs ++ [v]) g sv (dpa_append hd (.cons d1 .nil))
  exact ⟨a, xs, v, rfl, rfl, e1', by rw [dpa_len hd]; exact q1.1, s.nx _ _ ex _ this.1 (by rw [this.2]; exact g1.mask R) q1.2⟩
theorem qs_append (i : Nat) (he : QE X e p) (hN : X.N[i]? = some x := by rfl) (hv : Vis X.env.scope x := by first | exact Or.inl rfl | exact Or.inr (Or.inl rfl) | exact Or.inr (Or.inr rfl)) (hd : (x == ("__debug__" : Str)) = false := by decide) (hcd : (x == ("__classdict__" : Str)) = false := by decide)
    (hbase : attributeBase (.Name x xpos) "append" X.env (eval (.Name x xpos) X.env) = eval (.Name x xpos) X.env := by rfl)
    (hfew : ((backTo cpos (starEach [e] X.env)).all (fun x => !x.1) && (backToKw cpos (keywordEach [] X.env)).all (fun x => x.1.isSome)
      && decide ([e].length + ([] : List Keyword).length + (if ([] : List Keyword).isEmpty then 0 else 1) < 30)) = true := by rfl)
    (hline : (apos.endLine == cpos.line) = true := by rfl) (hs : starEach [e] X.env = (false, eval e X.env) :: starEach [] X.env := by rfl) (hplain : (backTo cpos (starEach [] X.env)).any (·.1) = false := by rfl)
    (hsw : swapsWith (.Call (.Attribute (.Name x xpos) "append" apos) [e] [] cpos) none pos.line X.env = pure false := by rfl) : QS X (.Expr (.Call (.Attribute (.Name x xpos) "append" apos) [e] [] cpos) pos) (wAppend i p) :=
  let ⟨_, a1, a2⟩ := he.ex; ⟨_, ps_expr (pe_bm PySem.F.plainAttrs_list PySem.F.slot_list_append PySem.F.type_list_append mt_append (pe_var hN hv hd hcd) (pa_cons a1 pa_nil hs) hbase hfew hline hs hplain) hsw, ls_append i a2⟩
def oLst (x : PyData) (Q : List PyData → Prop) : Prop := match x with | .list ds => Q ds | _ => False
theorem oLst_of {x : PyData} {Q : List PyData → Prop} (h : oLst x Q) : ∃ ds, x = .list ds ∧ Q ds := by
  unfold oLst at h
  split at h
  · exact ⟨_, rfl, h⟩
  · exact h.elim
/-- x.extend(e) -/
abbrev wExtend (i : Nat) (p : WE) : WS := fun E Γ => slotL Γ i fun ds => p Γ fun x => oLst x fun zs => ds.length + zs.length ≤ sizeLine ∧ E.nx (Γ.set i (some (.lst (ds ++ zs))))
theorem ls_extend (i : Nat) {te : TE} (h : LB K w te p) : LS K w (tDrop (tBM K "list" rExtend (tVar i) (tCons te tNil))) (wExtend i p) := fun C σ H ex Γ e1 e2 R E' hp E s => by
  obtain ⟨ds, g, hp⟩ := slotL_of hp
  obtain ⟨v, sv, a, xs0, rfl, ha, na, e0, hd0⟩ := R.slot i _ g
  refine ⟨_, sv, .inl ⟨rfl, xs0, .of e0⟩, h C σ H ex Γ e1 e2 R _ hp _ fun v d H1 R1 g1 d1 q1 => ?_⟩
  obtain ⟨zs, rfl, q1⟩ := oLst_of q1
  obtain ⟨b, ys, rfl, hb, hy⟩ := d1.list
  obtain ⟨v', sv', a', xs, rfl, ha', na', e1', hd⟩ := R1.slot i _ g
  rw [sv] at sv'
  cases sv'
  have := R1.put (xs := xs ++ ys) g sv (dpa_append hd hy)
  exact ⟨a, b, xs, ys, rfl, rfl, e1', hb, by rw [dpa_len hd, dpa_len hy]; exact q1.1, s.nx _ _ ex _ this.1 (by rw [this.2]; exact g1.mask R) q1.2⟩
theorem qs_extend (i : Nat) (he : QB X e p) (hN : X.N[i]? = some x := by rfl) (hv : Vis X.env.scope x := by first | exact Or.inl rfl | exact Or.inr (Or.inl rfl) | exact Or.inr (Or.inr rfl)) (hd : (x == ("__debug__" : Str)) = false := by decide) (hcd : (x == ("__classdict__" : Str)) = false := by decide)
    (hbase : attributeBase (.Name x xpos) "extend" X.env (eval (.Name x xpos) X.env) = eval (.Name x xpos) X.env := by rfl)
    (hfew : ((backTo cpos (starEach [e] X.env)).all (fun x => !x.1) && (backToKw cpos (keywordEach [] X.env)).all (fun x => x.1.isSome)
      && decide ([e].length + ([] : List Keyword).length + (if ([] : List Keyword).isEmpty then 0 else 1) < 30)) = true := by rfl)
    (hline : (apos.endLine == cpos.line) = true := by rfl) (hs : starEach [e] X.env = (false, eval e X.env) :: starEach [] X.env := by rfl) (hplain : (backTo cpos (starEach [] X.env)).any (·.1) = false := by rfl)
    (hsw : swapsWith (.Call (.Attribute (.Name x xpos) "extend" apos) [e] [] cpos) none pos.line X.env = pure false := by rfl) : QS X (.Expr (.Call (.Attribute (.Name x xpos) "extend" apos) [e] [] cpos) pos) (wExtend i p) :=
  let ⟨_, a1, a2⟩ := he.ex; ⟨_, ps_expr (pe_bm PySem.F.plainAttrs_list PySem.F.slot_list_extend PySem.F.type_list_extend mt_extend (pe_var hN hv hd hcd) (pa_cons a1 pa_nil hs) hbase hfew hline hs hplain) hsw, ls_extend i a2⟩
/-- x[k] = .. -/
def wgSubL (i : Nat) (p : WE) : WG := fun d Γ Q => slotL Γ i fun ds => p Γ fun x => int1 x fun k => optW (ixN ds.length k) fun j => Q (Γ.set i (some (.lst (ds.set j d))))
theorem qg_subL (i : Nat) {k : Expr} (hk : QE X k p) (hN : X.N[i]? = some x := by rfl) (hv : Vis X.env.scope x := by first | exact Or.inl rfl | exact Or.inr (Or.inl rfl) | exact Or.inr (Or.inr rfl)) (hd : (x == ("__debug__" : Str)) = false := by decide) (hcd : (x == ("__classdict__" : Str)) = false := by decide)
    (ha : ∀ v, assign (.Subscript (.Name x xpos) k pos) X.env v = (do
      let ov ← holding [v] (eval (.Name x xpos) X.env)
      let iv ← holding [v, ov] (eval k X.env)
      standAt pos
      holding [v, ov, iv] (setItem ov iv v)
      release [v, ov, iv] []) := by intro _; rfl) : QG X (.Subscript (.Name x xpos) k pos) (wgSubL i p) := let ⟨_, a1, a2⟩ := hk.ex; ⟨_, pg_sub (pe_var hN hv hd hcd) a1 set_list ha, fun C σ H ex Γ v d e1 e2 R hd Q' hp Q k => by
  obtain ⟨ds, g, hp⟩ := slotL_of hp
  obtain ⟨u, sv, a, xs0, rfl, ha, na, e0, hd0⟩ := R.slot i _ g
  refine ⟨_, sv, a2 C σ H ex Γ e1 e2 R _ hp _ fun y dy H1 R1 g1 d1 q1 => ?_⟩
  obtain ⟨kk, rfl, q1⟩ := int1_of (x := dy) q1
  obtain ⟨j, ej, q1⟩ := optW_of q1
  cases d1
  obtain ⟨v', sv', a', xs, rfl, ha', na', e1', hd'⟩ := R1.slot i _ g
  rw [sv] at sv'
  cases sv'
  have := R1.put (xs := xs.set j v) g sv (dpa_set (dp_mono (g1.mask R) hd) j hd')
  exact ⟨a, xs, kk, j, rfl, rfl, e1', by rw [dpa_len hd']; exact ej, k _ _ ex _ this.1 (by rw [this.2]; exact g1.mask R) q1⟩⟩
end
end PV
namespace PV
open PySem PySem.Spec PyProof.Rows L2 RZ StX SrtO Kw
/-! ### what is walked -/
def ItOk (C : Ctx) (J : It) (ex : List Addr) (H' : Hp) (b : Bool) (ds : List PyData) : Prop :=
  ∀ (σ2 : L2.St) (H2 : Hp) (ex2 : List Addr) (Γ2 : VEnv), Rel C σ2 H2 ex2 Γ2 → Same (Mask H' ex) (Mask H2 ex2) → (b = true → GrowM C H' H2) → ∀ i,
    (i < ds.length → J.go i H2 ∧ ∀ x H3, J.yld i H2 x H3 → Same H2 H3 ∧ ∃ d, ds[i]? = some d ∧ Dd C.K (Mask H3 ex2) x d) ∧ (i = ds.length → J.stop i H2)
/-- b: a slot's own list may be walked -/
def LI (K : PySem.W.Frag) (w : World) (b : Bool) (t : TI) (p : WA) : Prop :=
  ∀ (C : Ctx) (σ : L2.St) (H : Hp) (ex : List Addr) (Γ : VEnv), C.K = K → C.w = w → Rel C σ H ex Γ → ∀ Q' : List PyData → Prop, p Γ Q' → ∀ R' : It → Hp → Prop,
    (∀ J ds H', Rel C σ H' ex Γ → Grow C H H' → ItOk C J ex H' b ds → Q' ds → R' J H') → t σ H R'
structure QI (X : Cx) (b : Bool) (tg iter : Expr) (p : WA) : Prop where
  ex : ∃ t, PI X tg iter t ∧ LI X.K X.w b t p
theorem QI.weak {X : Cx} {tg iter : Expr} {p : WA} (h : QI X false tg iter p) : QI X true tg iter p := let ⟨t, h1, h2⟩ := h.ex; ⟨t, h1, fun C σ H ex Γ e1 e2 R Q' hp R' k => h2 C σ H ex Γ e1 e2 R Q' hp R' fun J ds H' R1 g ok q => k J ds H' R1 g (fun σ2 H2 ex2 Γ2 R2 s _ => ok σ2 H2 ex2 Γ2 R2 s (fun z => by cases z)) q⟩
section
variable {X : Cx} {a b c e tg : Expr} {es : List Expr} {pos : Pos} {p q : WE} {pa : WA} {K : PySem.W.Frag} {w : World}
/-- a list or a tuple -/
def iSeq (K : PySem.W.Frag) (tl : TE) : TI := fun σ H R => tl σ H fun x H1 => (∃ a, x = .ref a ∧ (∃ xs, SqL K H1 a xs) ∧ R (Itl K a) H1) ∨ (∃ a, x = .ref a ∧ (∃ xs, SqT K H1 a xs) ∧ R (Itt K a) H1)
theorem pi_seq {l : Expr} {tl : TE} (hl : PE X l tl) : PI X tg l (iSeq X.K tl) := by
  refine ⟨fun pins s σ H R I h => ?_⟩
  refine thn (hl.run pins s σ H _ I h) fun v s1 ⟨x, H1, I1, r1, q1⟩ => ?_
  rcases q1 with ⟨a, e, ⟨xs, hq⟩, q⟩ | ⟨a, e, ⟨xs, hq⟩, q⟩
  · subst e
    cases r1
    obtain ⟨its, rv, p, hz⟩ := I1.list hq
    refine wpAny_pyIter_list p.isList ?_
    refine ⟨s1.heap.objs.size, [s1.heap.objs.size], _, _, H1, rfl, I1.kept (t' := s1.toks) fun b o e => Heap.get?_push_of_some _ e, turn_list a _, ⟨_, Heap.get?_push_size _ rfl, rfl, rfl⟩, fun b hb => ?_, q⟩
    have e : b = s1.heap.objs.size := by simpa using hb
    subst e
    exact I1.fpOk (Nat.le_refl _) (I1.hok.fresh (Nat.le_refl _))
  · subst e
    cases r1
    obtain ⟨its, rv, p, hz⟩ := I1.tuple hq
    refine wpAny_pyIter_tuple (show s1.heap.IsTuple a its.toArray from p) ?_
    refine ⟨s1.heap.objs.size, [s1.heap.objs.size], _, _, H1, rfl, I1.kept (t' := s1.toks) fun b o e => Heap.get?_push_of_some _ e, turn_tuple a _, ⟨_, Heap.get?_push_size _ rfl, rfl, rfl⟩, fun b hb => ?_, q⟩
    have e : b = s1.heap.objs.size := by simpa using hb
    subst e
    exact I1.fpOk (Nat.le_refl _) (I1.hok.fresh (Nat.le_refl _))
theorem itok_list {C : Ctx} {ex : List Addr} {H : Hp} {v : V} {ds : List PyData} {bb : Bool} {a : Addr} {xs : List V} (hv : (Mask H ex a = some (.lst xs)) ∨ (bb = true ∧ Mine C a ∧ H a = some (.lst xs))) (hd : DdAll C.K (Mask H ex) xs ds) : ItOk C (Itl C.K a) ex H bb ds := fun σ2 H2 ex2 Γ2 R2 s g i => by
  have ha : H2 a = some (.lst xs) := by
    rcases hv with hv | ⟨e, m, hv⟩
    · exact (mask_some (s _ _ hv)).2
    · exact g e a _ (fun z => m.1 (C.dkE a z)) (.inl m) hv
  have l := dpa_len hd
  refine ⟨fun hi => ⟨⟨xs, xs[i], .of ha, List.getElem?_eq_getElem (by omega)⟩, fun x H3 y => ?_⟩, fun hi => ⟨xs, .of ha, by omega⟩⟩
  obtain ⟨rfl, y⟩ := y
  have hx := y xs (.of ha)
  obtain ⟨d, ed, hd'⟩ := dpa_at' hd hx
  exact ⟨Same.refl _, d, ed, dp_mono s hd'⟩
theorem itok_tup {C : Ctx} {ex : List Addr} {H : Hp} {σ : L2.St} {Γ : VEnv} (R : Rel C σ H ex Γ) {ds : List PyData} {bb : Bool} {a : Addr} {xs : List V} (hv : SqT C.K H a xs) (hd : DdAll C.K (Mask H ex) xs ds) : ItOk C (Itt C.K a) ex H bb ds := fun σ2 H2 ex2 Γ2 R2 s g i => by
  have ha : SqT C.K H2 a xs := (mask_le H2 ex2).sqt (s.sqt (R.tup hv))
  have l := dpa_len hd
  refine ⟨fun hi => ⟨⟨xs, xs[i], ha, List.getElem?_eq_getElem (by omega)⟩, fun x H3 y => ?_⟩, fun hi => ⟨xs, ha, by omega⟩⟩
  obtain ⟨rfl, y⟩ := y
  have hx := y xs ha
  obtain ⟨d, ed, hd'⟩ := dpa_at' hd hx
  exact ⟨Same.refl _, d, ed, dp_mono s hd'⟩
abbrev wSeqI (p : WE) : WA := fun Γ Q => p Γ fun x => oStar x Q
theorem li_seq {t : TE} (h : LE K w t p) : LI K w false (iSeq K t) (wSeqI p) := fun C σ H ex Γ e1 e2 R Q' hp R' k => h C σ H ex Γ e1 e2 R _ hp _ fun v d H1 R1 g1 d1 q1 => by
  subst e1
  unfold oStar at q1
  split at q1
  · cases d1 with
    | tup h1 h2 => exact .inr ⟨_, rfl, ⟨_, (mask_le H1 ex).sqt h1⟩, k _ _ H1 R1 g1 (itok_tup R1 ((mask_le H1 ex).sqt h1) h2) q1⟩
  · cases d1 with
    | lst h1 h2 => exact .inl ⟨_, rfl, ⟨_, .of (mask_le H1 ex _ _ h1)⟩, k _ _ H1 R1 g1 (itok_list (v := .non) (.inl h1) h2) q1⟩
  · exact q1.elim
theorem li_seqB {t : TE} (h : LB K w t p) : LI K w true (iSeq K t) (wSeqI p) := fun C σ H ex Γ e1 e2 R Q' hp R' k => h C σ H ex Γ e1 e2 R _ hp _ fun v d H1 R1 g1 d1 q1 => by
  subst e1
  unfold oStar at q1
  split at q1
  · obtain ⟨a, xs, rfl, h1, h2⟩ := d1.tup
    exact .inr ⟨_, rfl, ⟨_, h1⟩, k _ _ H1 R1 g1 (itok_tup R1 h1 h2) q1⟩
  · rcases d1 with d1 | ⟨a, xs, ds, rfl, e, h1, h2, h3, h4⟩
    · cases d1 with
      | lst h1 h2 => exact .inl ⟨_, rfl, ⟨_, .of (mask_le H1 ex _ _ h1)⟩, k _ _ H1 R1 g1 (itok_list (v := .non) (.inl h1) h2) q1⟩
    · cases e
      exact .inl ⟨_, rfl, ⟨_, .of h3⟩, k _ _ H1 R1 g1 (itok_list (v := .non) (.inr ⟨rfl, h2, h3⟩) h4) q1⟩
  · exact q1.elim
theorem qi_seq (h : QE X e p) : QI X false tg e (wSeqI p) := let ⟨_, a1, a2⟩ := h.ex; ⟨_, pi_seq a1, li_seq a2⟩
theorem qi_seqB (h : QB X e p) : QI X true tg e (wSeqI p) := let ⟨_, a1, a2⟩ := h.ex; ⟨_, pi_seq a1, li_seqB a2⟩
/-- range -/
def rangeD (lo : Int) (n : Nat) : List PyData := (List.range n).map fun (k : Nat) => PyData.int (lo + k)
theorem itok_range {C : Ctx} {ex : List Addr} {H : Hp} {bb : Bool} (lo : Int) (n : Nat) : ItOk C (Itr lo n) ex H bb (rangeD lo n) := fun σ2 H2 ex2 Γ2 R2 s g i => by
  unfold rangeD
  rw [List.length_map, List.length_range]
  refine ⟨fun hi => ⟨hi, fun x H3 y => ?_⟩, fun hi => by rw [hi]; exact Nat.le_refl _⟩
  obtain ⟨rfl, rfl⟩ := y
  exact ⟨Same.refl _, .int (lo + i), by simp [List.getElem?_range hi], .int _⟩
def oRange1 (x : PyData) (Q : List PyData → Prop) : Prop := match x with
  | .int j => (-(2 ^ 62) ≤ j ∧ j < 2 ^ 62) ∧ Q (rangeD 0 j.toNat)
  | _ => False
def oRange2 (x y : PyData) (Q : List PyData → Prop) : Prop := match x, y with
  | .int i, .int j => (-(2 ^ 62) ≤ i ∧ i < 2 ^ 62 ∧ -(2 ^ 62) ≤ j ∧ j < 2 ^ 62) ∧ Q (rangeD i (j - i).toNat)
  | _, _ => False
abbrev wRange1 (p : WE) : WA := fun Γ Q => p Γ fun x => oRange1 x Q
abbrev wRange2 (p q : WE) : WA := fun Γ Q => p Γ fun x => q Γ fun y => oRange2 x y Q
theorem qi_range1 {p1 pos : Pos} (hg : Gl X "range") (hm : X.mg "range" = none) (ha : QE X a p) (hs : starEach [a] X.env = [(false, eval a X.env)] := by rfl) : QI X false tg (.Call (.Name "range" p1) [a] [] pos) (wRange1 p) :=
  let ⟨_, a1, a2⟩ := ha.ex; ⟨_, pi_range1 hg hm (pa_cons a1 pa_nil hs) hs, fun C σ H ex Γ e1 e2 R Q' hp R' k => a2 C σ H ex Γ e1 e2 R _ hp _ fun v d H1 R1 g1 d1 q1 => by
    unfold oRange1 at q1
    split at q1
    · cases d1
      exact ⟨_, rfl, q1.1.1, q1.1.2, k _ _ H1 R1 g1 (itok_range 0 _) q1.2⟩
    · exact q1.elim⟩
theorem qi_range2 {p1 pos : Pos} (hg : Gl X "range") (hm : X.mg "range" = none) (ha : QE X a p) (hb : QE X b q) (hs : starEach [a, b] X.env = [(false, eval a X.env), (false, eval b X.env)] := by rfl) (hs2 : starEach [b] X.env = [(false, eval b X.env)] := by rfl) (hs3 : starEach [a, b] X.env = (false, eval a X.env) :: starEach [b] X.env := by rfl) :
    QI X false tg (.Call (.Name "range" p1) [a, b] [] pos) (wRange2 p q) :=
  let ⟨_, a1, a2⟩ := ha.ex; let ⟨_, b1, b2⟩ := hb.ex; ⟨_, pi_range2 hg hm (pa_cons a1 (pa_cons b1 pa_nil hs2) hs3) hs hs2, fun C σ H ex Γ e1 e2 R Q' hp R' k => a2 C σ H ex Γ e1 e2 R _ hp _ fun v d H1 R1 g1 d1 q1 =>
    b2 C σ H1 ex Γ e1 e2 R1 _ q1 _ fun u f H2 R2 g2 d2 q2 => by
    unfold oRange2 at q2
    split at q2
    · cases d1
      cases d2
      exact ⟨_, _, rfl, q2.1, k _ _ H2 R2 (g1.trans g2) (itok_range _ _) q2.2⟩
    · exact q2.elim⟩
/-- pairs anew -/
theorem itok_pairs {C : Ctx} {ex : List Addr} {H : Hp} {bb : Bool} {J : It} {ds : List PyData}
    (go : ∀ (σ2 : L2.St) (H2 : Hp) (ex2 : List Addr) (Γ2 : VEnv), Rel C σ2 H2 ex2 Γ2 → Same (Mask H ex) (Mask H2 ex2) → (bb = true → GrowM C H H2) → ∀ i, (i < ds.length → J.go i H2 ∧ ∀ x H3, J.yld i H2 x H3 → ∃ T u v du dv, x = .ref T ∧ H2 T = none ∧ H3 = upd H2 T (.tup [u, v]) ∧ ds[i]? = some (.tuple [du, dv]) ∧ Dd C.K (Mask H2 ex2) u du ∧ Dd C.K (Mask H2 ex2) v dv) ∧ (i = ds.length → J.stop i H2)) :
    ItOk C J ex H bb ds := fun σ2 H2 ex2 Γ2 R2 s g i => by
  obtain ⟨g1, g2⟩ := go σ2 H2 ex2 Γ2 R2 s g i
  refine ⟨fun hi => ⟨(g1 hi).1, fun x H3 y => ?_⟩, g2⟩
  obtain ⟨T, u, v, du, dv, rfl, nT, rfl, e, h1, h2⟩ := (g1 hi).2 x H3 y
  have m := Grow.mask R2 (.of (same_new nT (.tup [u, v])))
  exact ⟨same_new nT _, _, e, .tup (SqT.of (mask_new (R2.fresh nT))) (.cons (dp_mono m h1) (.cons (dp_mono m h2) .nil))⟩
def pairD (x y : PyData) : PyData := .tuple [x, y]
def zipD (xs ys : List PyData) : List PyData := List.zipWith pairD xs ys
theorem zipD_at {xs ys : List PyData} {i : Nat} {x y : PyData} (h1 : xs[i]? = some x) (h2 : ys[i]? = some y) : (zipD xs ys)[i]? = some (pairD x y) := by
  unfold zipD
  rw [List.getElem?_zipWith, h1, h2]
/-- what a walked list gives at a later time -/
theorem later_list {C : Ctx} {ex ex2 : List Addr} {H H2 : Hp} {v : V} {ds : List PyData} {bb : Bool} (h : DB C H ex v (.list ds)) (hb : bb = true ∨ Dd C.K (Mask H ex) v (.list ds)) (s : Same (Mask H ex) (Mask H2 ex2)) (g : bb = true → GrowM C H H2) :
    ∃ a xs, v = .ref a ∧ H2 a = some (.lst xs) ∧ DdAll C.K (Mask H2 ex2) xs ds := by
  rcases h with h | ⟨a, xs, ds', rfl, e, h1, h2, h3, h4⟩
  · cases h with
    | lst h1 h2 => exact ⟨_, _, rfl, (mask_some (s _ _ h1)).2, dpa_mono s h2⟩
  · cases e
    rcases hb with hb | hb
    · exact ⟨a, xs, rfl, g hb a _ (fun z => h2.1 (C.dkE a z)) (.inl h2) h3, dpa_mono s h4⟩
    · cases hb with
      | lst k1 k2 => exact ⟨_, _, rfl, (mask_some (s _ _ k1)).2, dpa_mono s k2⟩
theorem later_tup {C : Ctx} {σ : L2.St} {Γ : VEnv} {ex ex2 : List Addr} {H H2 : Hp} {v : V} {ds : List PyData} (R : Rel C σ H ex Γ) (h : DB C H ex v (.tuple ds)) (s : Same (Mask H ex) (Mask H2 ex2)) :
    ∃ a xs, v = .ref a ∧ SqT C.K H2 a xs ∧ DdAll C.K (Mask H2 ex2) xs ds := by
  obtain ⟨a, xs, rfl, h1, h2⟩ := h.tup
  exact ⟨a, xs, rfl, (mask_le H2 ex2).sqt (s.sqt (R.tup h1)), dpa_mono s h2⟩
def oZip (x y : PyData) (Q : List PyData → Prop) : Prop := match x, y with
  | .list s, .list t => Q (zipD s t)
  | .tuple s, .tuple t => Q (zipD s t)
  | _, _ => False
abbrev wZip (p q : WE) : WA := fun Γ Q => p Γ fun x => q Γ fun y => oZip x y Q
theorem zipD_len (s t : List PyData) : (zipD s t).length = min s.length t.length := List.length_zipWith
theorem li_zip {ta tb : TE} (ha : LB K w ta p) (hb : LB K w tb q) : LI K w true (iZipA K (tCons ta (tCons tb tNil))) (wZip p q) := fun C σ H ex Γ e1 e2 R Q' hp R' k => ha C σ H ex Γ e1 e2 R _ hp _ fun v d H1 R1 g1 d1 q1 =>
    hb C σ H1 ex Γ e1 e2 R1 _ q1 _ fun u f H2 R2 g2 d2 q2 => by
  subst e1
  have d1 := d1.grow R1 g2
  unfold oZip at q2
  split at q2
  · rename_i s t
    obtain ⟨a, xs, rfl, h1, h2⟩ := d1.list
    obtain ⟨b, ys, rfl, h3, h4⟩ := d2.list
    refine ⟨a, b, xs, ys, rfl, .inl ⟨.of h1, .of h3, k _ _ H2 R2 (g1.trans g2) (itok_pairs fun σ3 H3 ex3 Γ3 R3 s3 g3 i => ?_) q2⟩⟩
    obtain ⟨a', xs', e, k1, k2⟩ := later_list d1 (.inl rfl) s3 g3
    cases e
    obtain ⟨b', ys', e, k3, k4⟩ := later_list d2 (.inl rfl) s3 g3
    cases e
    have l1 := dpa_len k2
    have l2 := dpa_len k4
    rw [zipD_len]
    refine ⟨fun hi => ⟨⟨xs', ys', xs'[i], ys'[i], .of k1, .of k3, List.getElem?_eq_getElem (by omega), List.getElem?_eq_getElem (by omega)⟩, fun x H4 y => ?_⟩, fun hi => ⟨xs', ys', .of k1, .of k3, by omega⟩⟩
    obtain ⟨T, x1, y1, rfl, nT, rfl, f1, f2⟩ := y
    obtain ⟨dx, ex1, hx⟩ := dpa_at' k2 (f1 _ (.of k1))
    obtain ⟨dy, ey1, hy⟩ := dpa_at' k4 (f2 _ (.of k3))
    exact ⟨T, x1, y1, dx, dy, rfl, nT, rfl, zipD_at ex1 ey1, hx, hy⟩
  · rename_i s t
    obtain ⟨a, xs, rfl, h1, h2⟩ := d1.tup
    obtain ⟨b, ys, rfl, h3, h4⟩ := d2.tup
    refine ⟨a, b, xs, ys, rfl, .inr ⟨h1, h3, k _ _ H2 R2 (g1.trans g2) (itok_pairs fun σ3 H3 ex3 Γ3 R3 s3 g3 i => ?_) q2⟩⟩
    obtain ⟨a', xs', e, k1, k2⟩ := later_tup R2 d1 s3
    cases e
    obtain ⟨b', ys', e, k3, k4⟩ := later_tup R2 d2 s3
    cases e
    have l1 := dpa_len k2
    have l2 := dpa_len k4
    rw [zipD_len]
    refine ⟨fun hi => ⟨⟨xs', ys', xs'[i], ys'[i], k1, k3, List.getElem?_eq_getElem (by omega), List.getElem?_eq_getElem (by omega)⟩, fun x H4 y => ?_⟩, fun hi => ⟨xs', ys', k1, k3, by omega⟩⟩
    obtain ⟨T, x1, y1, rfl, nT, rfl, f1, f2⟩ := y
    obtain ⟨dx, ex1, hx⟩ := dpa_at' k2 (f1 _ k1)
    obtain ⟨dy, ey1, hy⟩ := dpa_at' k4 (f2 _ k3)
    exact ⟨T, x1, y1, dx, dy, rfl, nT, rfl, zipD_at ex1 ey1, hx, hy⟩
  · exact q2.elim
variable {p1 tpos : Pos} {elts : List Expr} {kk : Nat}
theorem qi_zip (hg : Gl X "zip") (hm : X.mg "zip" = none) (ha : QB X a p) (hb : QB X b q) (hs : starEach [a, b] X.env = (false, eval a X.env) :: starEach [b] X.env := by rfl) (hpl : (backTo pos (starEach [b] X.env)).any (·.1) = false := by rfl) (hs2 : starEach [b] X.env = (false, eval b X.env) :: starEach [] X.env := by rfl) :
    QI X true (.Tuple elts kk tpos) (.Call (.Name "zip" p1) [a, b] [] pos) (wZip p q) :=
  let ⟨_, a1, a2⟩ := ha.ex; let ⟨_, b1, b2⟩ := hb.ex; ⟨_, pi_zipA hg hm (pa_cons a1 (pa_cons b1 pa_nil hs2) hs) hs hpl, li_zip a2 b2⟩
/-- enumerate -/
def iEnumS (K : PySem.W.Frag) (ta : TA) : TI := fun σ H R => ta σ H fun vs H1 => ∃ a xs, vs = [.ref a] ∧ ((SqL K H1 a xs ∧ R (Ite K a) H1) ∨ (SqT K H1 a xs ∧ R (IteT K a) H1))
theorem pi_enumS {ta : TA} (hg : Gl X "enumerate") (hm : X.mg "enumerate" = none) (ha : PA X [e] ta) (hs : starEach [e] X.env = [(false, eval e X.env)] := by rfl) :
    PI X (.Tuple elts kk tpos) (.Call (.Name "enumerate" p1) [e] [] pos) (iEnumS X.K ta) := by
  refine ⟨fun pins s σ H R I h => ?_⟩
  refine Call_ (ld_blt I hg hm boot_enumerate (PyProof.Rows.callWith_type1 (thn (ha.run pos pins s σ H _ I h) fun us s1 ⟨vs, H1, I1, r1, q1⟩ => ?_) hs rfl))
  obtain ⟨a, xs, ex, ⟨hq, q⟩ | ⟨hq, q⟩⟩ := q1
  · subst ex
    cases r1 with
    | cons r rr =>
      cases rr
      cases r
      obtain ⟨its, rv, p', hz⟩ := I1.list hq
      refine call_enumerate_list p'.isList fun h' he hit hsz hk => wpAny_pyIter_enum he ?_
      have I2 : Inv X pins σ H1 { s1 with heap := h' } := I1.kept (t' := s1.toks) hk
      refine ⟨s1.heap.objs.size + 1, [s1.heap.objs.size + 1, s1.heap.objs.size], _, _, H1, rfl, I2, turn_enum a (s1.heap.objs.size + 1) s1.heap.objs.size, ⟨⟨.none, he⟩, hit, Nat.succ_ne_self _⟩, fun b hb => ?_, q⟩
      have e' : b = s1.heap.objs.size + 1 ∨ b = s1.heap.objs.size := by simpa using hb
      have hle : s1.heap.objs.size ≤ b := by
        rcases e' with z | z
        · rw [z]; exact Nat.le_add_right _ _
        · rw [z]; exact Nat.le_refl _
      exact I1.fpOk hle (I1.hok.fresh hle)
  · subst ex
    cases r1 with
    | cons r rr =>
      cases rr
      cases r
      obtain ⟨its, rv, p', hz⟩ := I1.tuple hq
      refine call_enum_new (begins_tuple a its.toArray) p' fun h' he hit hsz hk => wpAny_pyIter_enum he ?_
      have I2 : Inv X pins σ H1 { s1 with heap := h' } := I1.kept (t' := s1.toks) hk
      refine ⟨s1.heap.objs.size + 1, [s1.heap.objs.size + 1, s1.heap.objs.size], _, _, H1, rfl, I2, turn_enumT a (s1.heap.objs.size + 1) s1.heap.objs.size, ⟨⟨.none, he⟩, ⟨_, hit, rfl, rfl⟩, Nat.succ_ne_self _⟩, fun b hb => ?_, q⟩
      have e' : b = s1.heap.objs.size + 1 ∨ b = s1.heap.objs.size := by simpa using hb
      have hle : s1.heap.objs.size ≤ b := by
        rcases e' with z | z
        · rw [z]; exact Nat.le_add_right _ _
        · rw [z]; exact Nat.le_refl _
      exact I1.fpOk hle (I1.hok.fresh hle)
def enumD (xs : List PyData) : List PyData := zipD (rangeD 0 xs.length) xs
theorem enumD_len (xs : List PyData) : (enumD xs).length = xs.length := by
  unfold enumD rangeD
  rw [zipD_len, List.length_map, List.length_range, Nat.min_self]
theorem enumD_at {xs : List PyData} {i : Nat} {x : PyData} (h : xs[i]? = some x) : (enumD xs)[i]? = some (pairD (.int (i : Nat)) x) := by
  have hi := (List.getElem?_eq_some_iff.mp h).1
  unfold enumD
  refine zipD_at ?_ h
  unfold rangeD
  rw [List.getElem?_map, List.getElem?_range hi]
  simp
abbrev wEnum (p : WE) : WA := fun Γ Q => p Γ fun x => oStar x fun xs => Q (enumD xs)
theorem li_enum {ta : TE} (ha : LB K w ta p) : LI K w true (iEnumS K (tCons ta tNil)) (wEnum p) := fun C σ H ex Γ e1 e2 R Q' hp R' k => ha C σ H ex Γ e1 e2 R _ hp _ fun v d H1 R1 g1 d1 q1 => by
  subst e1
  unfold oStar at q1
  split at q1
  · obtain ⟨a, xs, rfl, h1, h2⟩ := d1.tup
    refine ⟨a, xs, rfl, .inr ⟨h1, k _ _ H1 R1 g1 (itok_pairs fun σ3 H3 ex3 Γ3 R3 s3 g3 i => ?_) q1⟩⟩
    obtain ⟨a', xs', e, k1, k2⟩ := later_tup R1 d1 s3
    cases e
    have l1 := dpa_len k2
    rw [enumD_len]
    refine ⟨fun hi => ⟨⟨xs', xs'[i], k1, List.getElem?_eq_getElem (by omega)⟩, fun x H4 y => ?_⟩, fun hi => ⟨xs', k1, by omega⟩⟩
    obtain ⟨T, x1, rfl, nT, rfl, f1⟩ := y
    obtain ⟨dx, ex1, hx⟩ := dpa_at' k2 (f1 _ k1)
    exact ⟨T, .int (i : Nat), x1, _, dx, rfl, nT, rfl, enumD_at ex1, .int _, hx⟩
  · obtain ⟨a, xs, rfl, h1, h2⟩ := d1.list
    refine ⟨a, xs, rfl, .inl ⟨.of h1, k _ _ H1 R1 g1 (itok_pairs fun σ3 H3 ex3 Γ3 R3 s3 g3 i => ?_) q1⟩⟩
    obtain ⟨a', xs', e, k1, k2⟩ := later_list d1 (.inl rfl) s3 g3
    cases e
    have l1 := dpa_len k2
    rw [enumD_len]
    refine ⟨fun hi => ⟨⟨xs', xs'[i], .of k1, List.getElem?_eq_getElem (by omega)⟩, fun x H4 y => ?_⟩, fun hi => ⟨xs', .of k1, by omega⟩⟩
    obtain ⟨T, x1, rfl, nT, rfl, f1⟩ := y
    obtain ⟨dx, ex1, hx⟩ := dpa_at' k2 (f1 _ (.of k1))
    exact ⟨T, .int (i : Nat), x1, _, dx, rfl, nT, rfl, enumD_at ex1, .int _, hx⟩
  · exact q1.elim
theorem qi_enum (hg : Gl X "enumerate") (hm : X.mg "enumerate" = none) (ha : QB X e p) (hs : starEach [e] X.env = [(false, eval e X.env)] := by rfl) : QI X true (.Tuple elts kk tpos) (.Call (.Name "enumerate" p1) [e] [] pos) (wEnum p) :=
  let ⟨_, a1, a2⟩ := ha.ex; ⟨_, pi_enumS hg hm (pa_cons a1 pa_nil hs) hs, li_enum a2⟩
end
end PV
namespace PV
open PySem PySem.Spec PyProof.Rows L2 RZ StX SrtO Kw
/-! ### for, while -/
section
variable {X : Cx} {a b c e tg iter : Expr} {es : List Expr} {pos : Pos} {p q te : WE} {pa it : WA} {g : WG} {pt tt : WT} {ps body : WS} {K : PySem.W.Frag} {w : World}
/-- an invariant by the turn -/
def wFor (it : WA) (g : WG) (body : WS) : WS := fun E Γ => it Γ fun ds => ∃ I : Nat → VEnv → Prop, I 0 Γ ∧
  (∀ (i : Nat) (x : PyData) (Γ : VEnv), ds[i]? = some x → I i Γ → g x Γ fun Γ1 => body { nx := I (i + 1), ct := I (i + 1), bk := E.nx, rt := E.rt } Γ1) ∧ ∀ Γ, I ds.length Γ → E.nx Γ
theorem ls_for {ti : TI} {t : TG} {tb : TS} (hi : LI K w false ti it) (hg : LG K w t g) (hb : LS K w tb body) : LS K w (tFor ti t tb) (wFor it g body) := fun C σ H ex Γ e1 e2 R E' hp E s =>
  hi C σ H ex Γ e1 e2 R _ hp _ fun J ds H1 R1 g1 ok q => by
    obtain ⟨I, i0, turn, fin⟩ := q
    refine ⟨fun i m σ H => m = ds.length - i ∧ i ≤ ds.length ∧ ∃ ex2 Γ2, Rel C σ H ex2 Γ2 ∧ Same (Mask H1 ex) (Mask H ex2) ∧ I i Γ2, ⟨ds.length, rfl, Nat.zero_le _, ex, Γ, R1, Same.refl _, i0⟩, ?_⟩
    rintro i m σ2 H2 ⟨rfl, hi, ex2, Γ2, R2, m2, h2⟩
    obtain ⟨o1, o2⟩ := ok σ2 H2 ex2 Γ2 R2 m2 (fun z => by cases z) i
    have m0 := (g1.mask R).trans m2
    rcases Nat.lt_or_ge i ds.length with l | l
    · refine .inr ⟨(o1 l).1, fun σ H => ∃ ex3 Γ3, Rel C σ H ex3 Γ3 ∧ Same (Mask H1 ex) (Mask H ex3) ∧ I (i + 1) Γ3, fun σ' H' h => ⟨ds.length - (i + 1), by omega, rfl, l, h⟩, fun x H3 y => ?_⟩
      obtain ⟨s3, d, ed, hd⟩ := (o1 l).2 x H3 y
      have R3 := R2.same s3
      refine hg C σ2 H3 ex2 Γ2 x d e1 e2 R3 hd _ (turn i d Γ2 ed h2) _ fun σ4 H4 ex4 Γ4 R4 m4 q4 => ?_
      have m5 : Same (Mask H1 ex) (Mask H4 ex4) := (m2.trans (Grow.mask R2 (.of s3))).trans m4
      have s' := s.after ((g1.mask R).trans m5)
      exact hb C σ4 H4 ex4 Γ4 e1 e2 R4 _ q4 _ ⟨fun σ' H' ex' Γ' R' m' q' => ⟨ex', Γ', R', m5.trans m', q'⟩, s'.rt, s'.nx, fun σ' H' ex' Γ' R' m' q' => ⟨ex', Γ', R', m5.trans m', q'⟩⟩
    · have e : i = ds.length := by omega
      exact .inl ⟨o2 e, s.nx σ2 H2 ex2 Γ2 R2 m0 (fin Γ2 (e ▸ h2))⟩
theorem qs_for {sts : List Stmt} (hp : PassesOwn (model X.prog X.w) X.A X.env X.xe) (hi : QI X false tg iter it) (hg : QG X tg g) (hb : QSs X sts body) (hc : X.calm = true := by rfl)
    (hs : ∀ x, foldedSetIterable iter X.env x = pure x := by intro _; rfl) : QS X (.For tg iter sts [] pos) (wFor it g body) := let ⟨_, a1, a2⟩ := hi.ex; let ⟨_, g1, g2⟩ := hg.ex; let ⟨_, b1, b2⟩ := hb.ex; ⟨_, ps_for hp hc a1 g1 b1 hs, ls_for a2 g2 b2⟩
/-- an invariant with a measure -/
def wWhile (c : WT) (body : WS) : WS := fun E Γ => ∃ W : Nat → VEnv → Prop, (∃ m, W m Γ) ∧ ∀ m Γ, W m Γ → c Γ fun b =>
  if b = true then body { nx := fun Γ' => ∃ m', m' < m ∧ W m' Γ', ct := fun Γ' => ∃ m', m' < m ∧ W m' Γ', bk := E.nx, rt := E.rt } Γ else E.nx Γ
theorem ls_while {t : TT} {tb : TS} (hc : LT K w t pt) (hb : LS K w tb body) : LS K w (tWhile t tb) (wWhile pt body) := fun C σ H ex Γ e1 e2 R E' hp E s => by
  obtain ⟨W, ⟨m0, w0⟩, turn⟩ := hp
  refine ⟨fun m σ H2 => ∃ ex2 Γ2, Rel C σ H2 ex2 Γ2 ∧ Same (Mask H ex) (Mask H2 ex2) ∧ W m Γ2, ⟨m0, ex, Γ, R, Same.refl _, w0⟩, ?_⟩
  rintro m σ2 H2 ⟨ex2, Γ2, R2, m2, h2⟩
  refine hc C σ2 H2 ex2 Γ2 e1 e2 R2 _ (turn m Γ2 h2) _ fun b H3 R3 g3 q3 => ?_
  have m3 := m2.trans (g3.mask R2)
  cases b with
  | true =>
    have s' := s.after m3
    refine ⟨fun σ' H' => ∃ m', m' < m ∧ ∃ ex' Γ', Rel C σ' H' ex' Γ' ∧ Same (Mask H ex) (Mask H' ex') ∧ W m' Γ', fun σ' H' ⟨m', l, h⟩ => ⟨m', l, h⟩, hb C σ2 H3 ex2 Γ2 e1 e2 R3 _ q3 _ ⟨fun σ' H' ex' Γ' R' mm q' => ?_, s'.rt, s'.nx, fun σ' H' ex' Γ' R' mm q' => ?_⟩⟩
    · obtain ⟨m', l, h⟩ := q'
      exact ⟨m', l, ex', Γ', R', m3.trans mm, h⟩
    · obtain ⟨m', l, h⟩ := q'
      exact ⟨m', l, ex', Γ', R', m3.trans mm, h⟩
  | false => exact s.nx σ2 H3 ex2 Γ2 R3 m3 q3
theorem qs_while {sts : List Stmt} (hp : PassesOwn (model X.prog X.w) X.A X.env X.xe) (hc : QT X c pt) (hb : QSs X sts body) : QS X (.While c sts [] pos) (wWhile pt body) := let ⟨_, c1, c2⟩ := hc.ex; let ⟨_, b1, b2⟩ := hb.ex; ⟨_, ps_while hp c1 b1, ls_while c2 b2⟩
/-! ### comprehensions -/
/-- the greatest readings of heaps -/
def upE (K : PySem.W.Frag) (w : World) (p : WE) : TE := fun σ H Q => ∃ (C : Ctx) (ex : List Addr) (Γ : VEnv) (Q' : PyData → Prop), C.K = K ∧ C.w = w ∧ Rel C σ H ex Γ ∧ p Γ Q' ∧ ∀ v d H', Rel C σ H' ex Γ → Grow C H H' → Dd C.K (Mask H' ex) v d → Q' d → Q v H'
def upT (K : PySem.W.Frag) (w : World) (p : WT) : TT := fun σ H Q => ∃ (C : Ctx) (ex : List Addr) (Γ : VEnv) (Q' : Bool → Prop), C.K = K ∧ C.w = w ∧ Rel C σ H ex Γ ∧ p Γ Q' ∧ ∀ b H', Rel C σ H' ex Γ → Grow C H H' → Q' b → Q b H'
theorem QE.up (h : QE X e p) : PE X e (upE X.K X.w p) := by
  obtain ⟨t, h1, h2⟩ := h.ex
  refine ⟨fun pins s σ H Q I hw => h1.run pins s σ H Q I ?_⟩
  obtain ⟨C, ex, Γ, Q', e1, e2, R, hp, k⟩ := hw
  exact h2 C σ H ex Γ e1 e2 R Q' hp Q k
theorem QT.up (h : QT X e pt) : PT X e (upT X.K X.w pt) := by
  obtain ⟨t, h1, h2⟩ := h.ex
  refine ⟨fun pins s σ H Q I hw => h1.run pins s σ H Q I ?_⟩
  obtain ⟨C, ex, Γ, Q', e1, e2, R, hp, k⟩ := hw
  exact h2 C σ H ex Γ e1 e2 R Q' hp Q k
theorem le_up : LE K w (upE K w p) p := fun C σ H ex Γ e1 e2 R Q' hp Q k => ⟨C, ex, Γ, Q', e1, e2, R, hp, k⟩
theorem lt_up : LT K w (upT K w pt) pt := fun C σ H ex Γ e1 e2 R Q' hp Q k => ⟨C, ex, Γ, Q', e1, e2, R, hp, k⟩
structure QTs (X : Cx) (ifs : List Expr) (p : WT) : Prop where
  up : PTs X ifs (upT X.K X.w p)
abbrev wYes : WT := fun _ Q => Q true
theorem qts_nil : QTs X [] wYes := ⟨⟨fun pins s σ H Q I hw => by
  obtain ⟨C, ex, Γ, Q', e1, e2, R, hp, k⟩ := hw
  exact pts_nil.run pins s σ H Q I (k true H R (.refl H) hp)⟩⟩
theorem qts_one (h : QT X c pt) : QTs X [c] pt := ⟨pts_one h.up⟩
/-- an invariant by the turn and by what is made so far -/
def CompP (g : WG) (tt : WT) (te : WE) (Γ : VEnv) (xs : List PyData) (Q : List PyData → Prop) : Prop := ∃ P : Nat → List PyData → Prop, P 0 [] ∧
  (∀ (i : Nat) (x : PyData) (acc : List PyData), xs[i]? = some x → P i acc → g x Γ fun Γ1 => tt Γ1 fun b => if b = true then te Γ1 fun y => P (i + 1) (acc ++ [y]) else P (i + 1) acc) ∧ ∀ acc, P xs.length acc → Q acc
def wLc (it : WA) (g : WG) (tt : WT) (te : WE) (vs : List Nat) : WA := fun Γ Q => it Γ fun xs => xs.length ≤ 100000 ∧ CompP g tt te (wipeE Γ vs) xs Q
theorem ln_lc {ti : TI} {t : TG} {vs : List Nat} (hi : LI K w true ti it) (hg : LGn K vs t g) : LN K w (tLc ti t (upT K w tt) (upE K w te) vs) (wLc it g tt te vs) := fun C σ H ex Γ e1 e2 R Q' hp Q k =>
  hi C σ H ex Γ e1 e2 R _ hp _ fun J ds H1 R1 g1 ok q D nD => by
    obtain ⟨hl, P, p0, turn, fin⟩ := q
    have nD0 := g1.none R1 nD
    have start : Rel C (σ ++ [some (.ref D)]) (upd H1 D (.lst [])) (D :: ex) (Γ ++ [some (.lst [])]) := R1.pushNew (R1.new nD _) (.of (same_new nD _)) nD upd_same .nil
    have Dk : D ∉ C.dk := fun z => R1.fresh nD (R1.exs D (C.dkE D z))
    refine ⟨fun i m H2 => m = ds.length - i ∧ i ≤ ds.length ∧ ∃ xs acc, H2 D = some (.lst xs) ∧ DdAll C.K (Mask H2 (D :: ex)) xs acc ∧ Rel C (σ ++ [some (.ref D)]) H2 (D :: ex) (Γ ++ [some (.lst acc)]) ∧ Grow C H1 H2 ∧ acc.length ≤ i ∧ P i acc,
      ⟨ds.length, rfl, Nat.zero_le _, [], [], upd_same, .nil, start, .of (same_new nD _), Nat.zero_le _, p0⟩, ?_⟩
    rintro i m H2 ⟨rfl, hi, xs, acc, hD, hA, RX, gr, al, pi⟩
    have Rb := RX.less R.len
    have lσ : (Γ ++ [some (AV.lst acc)])[σ.length]? = some (some (.lst acc)) := by rw [← R.len, List.getElem?_append_right (Nat.le_refl _), Nat.sub_self]; rfl
    have sσ : (σ ++ [some (V.ref D)])[σ.length]? = some (some (.ref D)) := by rw [List.getElem?_append_right (Nat.le_refl _), Nat.sub_self]; rfl
    have m2 : Same (Mask H1 ex) (Mask H2 (D :: ex)) := mask_ext R1 gr nD
    obtain ⟨o1, o2⟩ := ok σ H2 (D :: ex) Γ Rb m2 (fun _ => gr.m) i
    rcases Nat.lt_or_ge i ds.length with l | l
    · refine .inr ⟨(o1 l).1, fun H' => ∃ xs acc, H' D = some (.lst xs) ∧ DdAll C.K (Mask H' (D :: ex)) xs acc ∧ Rel C (σ ++ [some (.ref D)]) H' (D :: ex) (Γ ++ [some (.lst acc)]) ∧ Grow C H1 H' ∧ acc.length ≤ i + 1 ∧ P (i + 1) acc, fun H' h => ⟨ds.length - (i + 1), by omega, rfl, l, h⟩, fun x H3 y => ?_⟩
      obtain ⟨s3, d, ed, hd⟩ := (o1 l).2 x H3 y
      have R3 := (Rb.same s3).wipe vs
      have g3 : Grow C H2 H3 := .of s3
      refine hg C _ H3 (D :: ex) _ x d e1 R3 hd _ (turn i d acc ed pi) _ fun σ4 Γ4 R4 e4 q4 => ⟨e4.trans (wipe_idem σ vs), ?_⟩
      refine lt_up C σ4 H3 _ Γ4 e1 e2 R4 _ q4 _ fun b H5 R5 g5 q5 => ?_
      cases b with
      | true =>
        refine le_up C σ4 H5 _ Γ4 e1 e2 R5 _ q5 _ fun y dy H6 R6 g6 dy6 q6 => ?_
        have gg : Grow C H2 H6 := (g3.trans g5).trans g6
        have RX6 := RX.with R6 gg
        have hD6 : H6 D = some (.lst xs) := gg D _ Dk hD
        have hA6 := dpa_mono (gg.mask RX) hA
        have put := RX6.put (xs := xs ++ [y]) lσ sσ (dpa_append hA6 (.cons dy6 .nil))
        have eS : (Γ ++ [some (AV.lst acc)]).set σ.length (some (.lst (acc ++ [dy]))) = Γ ++ [some (.lst (acc ++ [dy]))] := by rw [← R.len, set_end]
        rw [eS] at put
        refine ⟨xs, hD6, ?_, xs ++ [y], acc ++ [dy], upd_same, ?_, put.1, fun b o nb eb => ?_, by simp; omega, q6⟩
        · rw [dpa_len hA]
          exact Nat.lt_of_lt_of_le (Nat.lt_of_le_of_lt al (Nat.lt_of_lt_of_le l hl)) (by decide)
        · rw [put.2]
          exact dpa_append hA6 (.cons dy6 .nil)
        · have ne : b ≠ D := fun z => by rw [z, nD] at eb; cases eb
          rw [upd_ne ne]
          exact (gr.trans gg) b o nb eb
      | false =>
        have gg : Grow C H2 H5 := g3.trans g5
        exact ⟨xs, acc, gg D _ Dk hD, dpa_mono (gg.mask RX) hA, RX.with R5 gg, gr.trans gg, by omega, q5⟩
    · have e : i = ds.length := by omega
      refine .inl ⟨o2 e, ?_⟩
      have gH : Grow C H H2 := g1.trans gr
      exact k D xs acc H2 (R.with Rb gH) gH nD0 hD hA (fin acc (e ▸ pi))
variable {elt : Expr} {ifs : List Expr} {scope : Scope} {own : List (Str × Nat)} {t : TG}
theorem q_lc (own : List (Str × Nat)) (hN : X.N.Nodup) (hi : QI X true tg iter it) (ok : BlkOk X.N X.env.scope scope own)
    (hg : ∀ (s : Shared) (H : Hp) (C : Addr) (cl : List (Str × Addr)) (fp : List Addr), QGn (X.blk s H scope (compEnvC scope cl C X.env) fp) X.K (own.map (·.2)) tg t g) (ht : ∀ (s : Shared) (H : Hp) (C : Addr) (cl : List (Str × Addr)) (fp : List Addr), QTs (X.blk s H scope (compEnvC scope cl C X.env) fp) ifs tt)
    (he : ∀ (s : Shared) (H : Hp) (C : Addr) (cl : List (Str × Addr)) (fp : List Addr), QE (X.blk s H scope (compEnvC scope cl C X.env) fp) elt te) (hc : X.calm = true := by rfl) (hs : ∀ x, foldedSetIterable iter X.env x = pure x := by intro _; rfl) :
    QN X (.ListComp elt [⟨tg, iter, ifs, 0⟩] scope pos) (wLc it g tt te (own.map (·.2))) := let ⟨_, a1, a2⟩ := hi.ex;
  have s0 : Shared := X.s_0
  ⟨_, pe_lc hc hN a1 ok (fun s H C cl fp => (hg s H C cl fp).pg) (fun s H C cl fp => (ht s H C cl fp).up) (fun s H C cl fp => (he s H C cl fp).up) hs, ln_lc a2 (hg s0 X.H_0 0 [] []).lg⟩
/-- x = [..] on one line, x a local -/
theorem qs_setLc (i : Nat) {y : Str} {py spos : Pos} (own : List (Str × Nat)) (hN : X.N.Nodup) (hy : X.N[i]? = some y) (hyl : X.env.scope.names.lookup y = some .local)
    (hsw : swapsWith (.ListComp elt [⟨tg, iter, ifs, 0⟩] scope pos) (some (.Name y py)) spos.line X.env = pure true) (hi : QI X true tg iter it) (ok : BlkOk X.N X.env.scope scope own)
    (hg : ∀ (s : Shared) (H : Hp) (C : Addr) (cl : List (Str × Addr)) (fp : List Addr), QGn (X.blk s H scope (compEnvC scope cl C X.env) fp) X.K (own.map (·.2)) tg t g) (ht : ∀ (s : Shared) (H : Hp) (C : Addr) (cl : List (Str × Addr)) (fp : List Addr), QTs (X.blk s H scope (compEnvC scope cl C X.env) fp) ifs tt)
    (he : ∀ (s : Shared) (H : Hp) (C : Addr) (cl : List (Str × Addr)) (fp : List Addr), QE (X.blk s H scope (compEnvC scope cl C X.env) fp) elt te) (hc : X.calm = true := by rfl) (hs : ∀ x, foldedSetIterable iter X.env x = pure x := by intro _; rfl) :
    QS X (.Assign [.Name y py] (.ListComp elt [⟨tg, iter, ifs, 0⟩] scope pos) spos) (wSetN i (wLc it g tt te (own.map (·.2)))) := let ⟨_, a1, a2⟩ := hi.ex;
  have s0 : Shared := X.s_0
  ⟨_, ps_setLc hc hN hy hyl hsw a1 ok (fun s H C cl fp => (hg s H C cl fp).pg) (fun s H C cl fp => (ht s H C cl fp).up) (fun s H C cl fp => (he s H C cl fp).up) hs,
    fun C σ H ex Γ e1 e2 R E' hp E s => ln_lc a2 (hg s0 X.H_0 0 [] []).lg C σ H ex Γ e1 e2 R _ hp _ fun a xs ds H' R' g n eq hd q => s.nx _ H' (a :: ex) _ (R.setNew R' g n eq hd) (mask_ext R g n) q⟩
end
end PV
namespace PV
open PySem PySem.Spec PyProof.Rows L2 RZ StX SrtO Kw KL
/-! ### calls of defs -/
/-- an argument: a value, a dict that is read, the deck -/
def ArgAt (C : Ctx) (H : Hp) (ex : List Addr) (v : V) : AV → Prop
  | .val d => Dd C.K (Mask H ex) v d
  | .dct true es => ∃ a ks, v = .ref a ∧ a ∈ ex ∧ a ∉ C.dk ∧ Rd H a (DicN C.w a ks) ∧ Paired (EntAt C.K (Mask H ex)) ks es
  | .deck => ∃ d l, v = .ref d ∧ C.dk = [d, l] ∧ C.dok = fun H => DeckAt H d l
  | .raw v' => v = v'
  | _ => False
abbrev PSp := List AV → (PyData → Prop) → Prop
/-- a def's promise: what it wants of its arguments and of the end; it changes nothing but the deck -/
def spV (K : PySem.W.Frag) (w : World) (F : PSp) : Sp := fun vs H Q _ => ∃ (C : Ctx) (as : List AV) (Q' : PyData → Prop), C.K = K ∧ C.w = w ∧ Paired (ArgAt C H C.ex0) vs as ∧ (∀ a ∈ C.ex0, ∃ o, H a = some o ∧ NT o) ∧ C.dok H ∧ F as Q' ∧
  ∀ r v H', Q' r → Grow C H H' → C.dok H' → (∀ a ∈ C.dk, ∃ o, H' a = some o ∧ NT o) → Dd K (Mask H' C.ex0) v r → Q v H'
theorem arg_mut {C : Ctx} {H : Hp} {ex : List Addr} {v : V} {x : AV} (h : ArgAt C H ex v x) : ¬ x.mut := by
  cases x with
  | val d => exact fun h => h
  | lst ds => exact h.elim
  | dct lk es =>
    cases lk with
    | true => exact fun z => by cases z
    | false => exact h.elim
  | dlk es => exact h.elim
  | pdt a es => exact h.elim
  | deck => exact fun h => h
  | raw v => exact fun h => h
theorem arg_av {C C' : Ctx} {H : Hp} {ex : List Addr} {v : V} {x : AV} (h : ArgAt C H ex v x) (e1 : C'.K = C.K) (e2 : C'.w = C.w) (e3 : C'.dk = C.dk) (e4 : C'.dok = C.dok) : AvAt C' H ex v x := by
  cases x with
  | val d => show Dd C'.K _ v d; rw [e1]; exact h
  | lst ds => exact h.elim
  | dct lk es =>
    cases lk with
    | true =>
      obtain ⟨a, ks, h1, h2, h3, h4, h5⟩ := h
      exact ⟨a, ks, h1, h2, by rw [e3]; exact h3, by rw [if_pos rfl, e2]; exact h4, by rw [e1]; exact h5⟩
    | false => exact h.elim
  | dlk es => exact h.elim
  | pdt a es => exact h.elim
  | deck => show ∃ d l, _; rw [e3, e4]; exact h
  | raw v => exact h
theorem paired_map_at {α β : Type} {R : α → β → Prop} : ∀ {l : List α} {m : List β}, Paired R l m → ∀ {i : Nat} {y : β}, m[i]? = some y → ∃ x, l[i]? = some x ∧ R x y
  | _, _, .nil, i, y, e => by simp at e
  | _, _, .cons r t, 0, y, e => by
    simp only [List.getElem?_cons_zero, Option.some.injEq] at e
    subst e
    exact ⟨_, rfl, r⟩
  | _, _, .cons r t, i + 1, y, e => by
    simp only [List.getElem?_cons_succ] at e
    obtain ⟨x, h1, h2⟩ := paired_map_at t e
    exact ⟨x, by simpa using h1, h2⟩
theorem pair_len {α β : Type} {R : α → β → Prop} : ∀ {l : List α} {m : List β}, Paired R l m → l.length = m.length
  | _, _, .nil => rfl
  | _, _, .cons _ t => by rw [List.length_cons, List.length_cons, pair_len t]
def startE (N : List Str) (as : List AV) : VEnv := as.map some ++ List.replicate (N.length - as.length) none
/-- the ctx of a call -/
def Ctx.call (C : Ctx) (H : Hp) : Ctx := { C with H0 := H, M := C.dk, dkM := fun _ h => h, ME := C.dkE }
theorem start_rel {C : Ctx} {H : Hp} {N : List Str} {vs : List V} {as : List AV} (h : Paired (ArgAt C H C.ex0) vs as) (hA : ∀ a ∈ C.ex0, ∃ o, H a = some o ∧ NT o) (hd : C.dok H) : Rel (C.call H) (L2.start N vs) H C.ex0 (startE N as) where
  len := by
    unfold startE L2.start
    rw [List.length_append, List.length_append, List.length_map, List.length_map, pair_len h, List.length_replicate, List.length_replicate]
  slot := fun i x e => by
    unfold startE at e
    by_cases l : i < as.length
    · rw [List.getElem?_append_left (by rw [List.length_map]; exact l), List.getElem?_map] at e
      obtain ⟨y, ey, e⟩ := Option.map_eq_some_iff.mp e
      obtain rfl : y = x := Option.some.inj e
      obtain ⟨v, ev, hv⟩ := paired_map_at h ey
      refine ⟨v, ?_, arg_av hv rfl rfl rfl rfl⟩
      unfold L2.start
      rw [List.getElem?_append_left (by rw [List.length_map, pair_len h]; exact l), List.getElem?_map, ev]
      rfl
    · rw [List.getElem?_append_right (by rw [List.length_map]; omega)] at e
      have := (List.mem_replicate.mp (List.mem_of_getElem? e)).2
      cases this
  apart := fun i j x y a hn h1 h2 m1 m2 s1 s2 => by
    unfold startE at h1
    by_cases l : i < as.length
    · rw [List.getElem?_append_left (by rw [List.length_map]; exact l), List.getElem?_map] at h1
      obtain ⟨y', ey, e⟩ := Option.map_eq_some_iff.mp h1
      obtain rfl : y' = x := Option.some.inj e
      obtain ⟨v, ev, hv⟩ := paired_map_at h ey
      exact arg_mut hv m1
    · rw [List.getElem?_append_right (by rw [List.length_map]; omega)] at h1
      have := (List.mem_replicate.mp (List.mem_of_getElem? h1)).2
      cases this
  exs := fun _ h => h
  all := hA
  keep := fun _ _ _ e => e
  deck := hd
section
variable {P : Program} {w : World} {K : PySem.W.Frag} {mg : Str → Option Value} {base : Heap}
/-- the rule for a def: its body as a term, the reading of that term -/
theorem fnV {x qual : Str} {st : Stmt} {f : Addr} {fd : FuncData} {N ps : List Str} {k : Nat} {p : WS} (F : Fun K x qual st f fd) (S : FnScope N ps (defScope st)) (sp : PSp) (len : ∀ as Q, sp as Q → as.length = ps.length)
    (hbody : ∀ (cdv : Value) (A : Around) (outer : List Env) (s : Shared) (H : Hp) (E : XK), Quiet (A.deeper (envOfC qual (defScope st) s.heap.objs.size f cdv)) → Room k (A.deeper (envOfC qual (defScope st) s.heap.objs.size f cdv)) →
      QSs (cxOf CX0 P w K mg base N qual (defScope st) f cdv A outer s H E).nox (defBody st) p)
    (hsp : ∀ as Q, sp as Q → p { nx := fun _ => Q .none, rt := fun d _ => Q d } (startE N as)) : GFn P w K mg base (k + 1) f fd ps (spV K w sp) := by
  refine gfn_of F S (fun vs H Q E h => ?_) (fun cdv A outer s H vs Q E hq hr h => ?_)
  · obtain ⟨C, as, Q', _, _, h1, _, _, h2, _⟩ := h
    rw [pair_len h1]
    exact len as Q' h2
  · obtain ⟨C, as, Q', e1, e2, h1, h2, h3, h4, k⟩ := h
    obtain ⟨t, b1, b2⟩ := (hbody cdv A outer s H E hq hr).ex
    refine ⟨t, b1, b2 (C.call H) _ H C.ex0 (startE N as) e1 e2 (start_rel h1 h2 h3) _ (hsp as Q' h4) _ ⟨fun σ' H' ex' Γ' R' _ q => ?_, fun σ' H' ex' Γ' v d R' hd q => ?_, fun _ _ _ _ _ _ q => q.elim, fun _ _ _ _ _ _ q => q.elim⟩⟩
    · exact k _ _ H' q R'.keep R'.deck (fun a ha => R'.all a (R'.exs a (C.dkE a ha))) .non
    · refine k d v H' q R'.keep R'.deck (fun a ha => R'.all a (R'.exs a (C.dkE a ha))) ?_
      rw [← e1]
      exact hd
theorem GFn.imp {k : Nat} {f : Addr} {fd : FuncData} {ps : List Str} {sp sp' : Sp} (F : GFn P w K mg base k f fd ps sp) (h : ∀ vs H Q E, sp' vs H Q E → sp vs H Q E) : GFn P w K mg base k f fd ps sp' :=
  ⟨fun vs H Q E q => F.len vs H Q E (h _ _ _ _ q), fun A g outer s H args us vs Q E hr he hb hv hs => F.go A g outer s H args us vs Q E hr he hb hv (h _ _ _ _ hs)⟩
end
/-! arguments -/
abbrev WA1 := VEnv → (AV → Prop) → Prop
def LAA (K : PySem.W.Frag) (w : World) (t : TA) (p : WAO) : Prop :=
  ∀ (C : Ctx) (σ : L2.St) (H : Hp) (ex : List Addr) (Γ : VEnv), C.K = K → C.w = w → Rel C σ H ex Γ → ∀ Q' : List AV → Prop, p Γ Q' → ∀ Q : List V → Hp → Prop,
    (∀ vs as H', Rel C σ H' ex Γ → Grow C H H' → Paired (ArgAt C H' ex) vs as → Q' as → Q vs H') → t σ H Q
structure QAA (X : Cx) (es : List Expr) (p : WAO) : Prop where
  ex : ∃ t, PA X es t ∧ LAA X.K X.w t p
theorem ArgAt.grow {C : Ctx} {σ : L2.St} {H H' : Hp} {ex : List Addr} {Γ : VEnv} (R : Rel C σ H ex Γ) (g : Grow C H H') {v : V} {x : AV} (h : ArgAt C H ex v x) : ArgAt C H' ex v x := by
  cases x with
  | val d => exact dp_mono (g.mask R) h
  | lst ds => exact h.elim
  | dct lk es =>
    cases lk with
    | true =>
      obtain ⟨a, ks, h1, h2, h3, h4, h5⟩ := h
      refine ⟨a, ks, h1, h2, h3, ?_, paired_mono (fun _ _ => ent_mono (g.mask R)) h5⟩
      rcases h4 with h4 | ⟨o, h4⟩
      · exact .inl (g _ _ h3 h4)
      · exact .inr ⟨o, g _ _ h3 h4⟩
    | false => exact h.elim
  | dlk es => exact h.elim
  | pdt a es => exact h.elim
  | deck => exact h
  | raw v => exact h
def slotDeck (Γ : VEnv) (i : Nat) (Q : AV → Prop) : Prop := match Γ[i]? with | some (some .deck) => Q .deck | _ => False
def slotDct (Γ : VEnv) (i : Nat) (Q : AV → Prop) : Prop := match Γ[i]? with | some (some (.dct _ es)) => Q (.dct true es) | _ => False
section
variable {X : Cx} {a e : Expr} {es : List Expr} {pos : Pos} {p : WE} {po pk : WAO} {K : PySem.W.Frag} {w : World} {x : Str}
theorem qaa_nil : QAA X [] wNilO := ⟨_, pa_nil, fun C σ H ex Γ e1 e2 R Q' hp Q k => k [] [] H R (.refl H) .nil hp⟩
theorem qaa_v (ha : QE X a p) (hr : QAA X es po) (hs : starEach (a :: es) X.env = (false, eval a X.env) :: starEach es X.env := by rfl) : QAA X (a :: es) (wConsV p po) :=
  let ⟨_, a1, a2⟩ := ha.ex; let ⟨_, r1, r2⟩ := hr.ex; ⟨_, pa_cons a1 r1 hs, fun C σ H ex Γ e1 e2 R Q' hp Q k => a2 C σ H ex Γ e1 e2 R _ hp _ fun v d H1 R1 g1 d1 q1 =>
    r2 C σ H1 ex Γ e1 e2 R1 _ q1 _ fun vs as H2 R2 g2 d2 q2 => k _ _ H2 R2 (g1.trans g2) (.cons (ArgAt.grow R1 g2 (x := .val d) d1) d2) q2⟩
abbrev wConsA (f : VEnv → (AV → Prop) → Prop) (r : WAO) : WAO := fun Γ Q => f Γ fun x => r Γ fun as => Q (x :: as)
abbrev wDeck (i : Nat) : VEnv → (AV → Prop) → Prop := fun Γ Q => slotDeck Γ i Q
abbrev wDct (i : Nat) : VEnv → (AV → Prop) → Prop := fun Γ Q => slotDct Γ i Q
theorem qaa_deck (i : Nat) {xp : Pos} (hr : QAA X es po) (hN : X.N[i]? = some x := by rfl) (hv : Vis X.env.scope x := by first | exact Or.inl rfl | exact Or.inr (Or.inl rfl) | exact Or.inr (Or.inr rfl)) (hd : (x == ("__debug__" : Str)) = false := by decide) (hcd : (x == ("__classdict__" : Str)) = false := by decide)
    (hs : starEach (.Name x xp :: es) X.env = (false, eval (.Name x xp) X.env) :: starEach es X.env := by rfl) : QAA X (.Name x xp :: es) (wConsA (wDeck i) po) :=
  let ⟨_, r1, r2⟩ := hr.ex; ⟨_, pa_cons (pe_var hN hv hd hcd) r1 hs, fun C σ H ex Γ e1 e2 R Q' hp Q k => by
    change slotDeck Γ i _ at hp
    unfold slotDeck at hp
    split at hp
    · rename_i e
      obtain ⟨v, ev, d, l, rfl, hd⟩ := R.slot i _ e
      exact ⟨_, ev, r2 C σ H ex Γ e1 e2 R _ hp _ fun vs as H2 R2 g2 d2 q2 => k _ _ H2 R2 g2 (.cons (show ArgAt C H2 ex (.ref d) .deck from ⟨d, l, rfl, hd⟩) d2) q2⟩
    · exact hp.elim⟩
theorem qaa_dct (i : Nat) {xp : Pos} (hr : QAA X es po) (hN : X.N[i]? = some x := by rfl) (hv : Vis X.env.scope x := by first | exact Or.inl rfl | exact Or.inr (Or.inl rfl) | exact Or.inr (Or.inr rfl)) (hd : (x == ("__debug__" : Str)) = false := by decide) (hcd : (x == ("__classdict__" : Str)) = false := by decide)
    (hs : starEach (.Name x xp :: es) X.env = (false, eval (.Name x xp) X.env) :: starEach es X.env := by rfl) : QAA X (.Name x xp :: es) (wConsA (wDct i) po) :=
  let ⟨_, r1, r2⟩ := hr.ex; ⟨_, pa_cons (pe_var hN hv hd hcd) r1 hs, fun C σ H ex Γ e1 e2 R Q' hp Q k => by
    change slotDct Γ i _ at hp
    unfold slotDct at hp
    split at hp
    · rename_i lk es' e
      obtain ⟨v, ev, a, ks, rfl, h2, h3, h4, h5⟩ := R.slot i _ e
      have h4' : Rd H a (DicN C.w a ks) := by
        cases lk with
        | true => rw [if_pos rfl] at h4; exact h4
        | false => rw [if_neg Bool.false_ne_true] at h4; exact .inl h4.1
      refine ⟨_, ev, r2 C σ H ex Γ e1 e2 R _ hp _ fun vs as H2 R2 g2 d2 q2 => k _ _ H2 R2 g2 (.cons (ArgAt.grow R g2 (x := .dct true es') ⟨a, ks, rfl, h2, h3, h4', h5⟩) d2) q2⟩
    · exact hp.elim⟩
abbrev wCall (sp : PSp) (p : WAO) : WE := fun Γ Q => p Γ fun as => sp as Q
theorem le_call {t : TA} {sp : PSp} (h : LAA K w t po) : LE K w (tCall (spV K w sp) [] E0 t) (wCall sp po) := fun C σ H ex Γ e1 e2 R Q' hp Q k => h C σ H ex Γ e1 e2 R _ hp _ fun vs as H1 R1 g1 d1 q1 => by
  show spV K w sp (vs ++ []) H1 Q E0
  rw [List.append_nil]
  refine ⟨{ C with ex0 := ex, H0 := H1, M := C.dk, dkE := fun a h => R.exs a (C.dkE a h), dkM := fun _ h => h, ME := fun a h => R.exs a (C.dkE a h) }, as, Q', e1, e2, d1, R1.all, R1.deck, q1, fun r v H' hq g hd hA hv => ?_⟩
  have g' : Grow C H1 H' := g
  exact k v r H' (R1.grow g' hd hA) (g1.trans g') (by rw [e1]; exact hv) hq
theorem q_call {k : Nat} {f : Addr} {fd : FuncData} {ps : List Str} {sp : PSp} {p1 : Pos} (G : GFn X.prog X.w X.K X.mg X.base k f fd ps (spV X.K X.w sp)) (hq : Quiet X.A) (hr : Room k X.A) (hg : Gl X x) (hm : X.mg x = some (.ref f))
    (hk : PySem.W.keepIn X.K (.ref f) = true) (hb : Binds X.K fd ps []) (ha : QAA X (e :: es) po) (hdb : (x == ("__debug__" : Str)) = false := by decide)
    (he : starEach (e :: es) X.env = (false, eval e X.env) :: starEach es X.env := by rfl) (hpl : (backTo pos (starEach es X.env)).any (·.1) = false := by rfl) : QE X (.Call (.Name x p1) (e :: es) [] pos) (wCall sp po) :=
  let ⟨_, a1, a2⟩ := ha.ex; ⟨_, pe_callG G hq hr hg hm hk hb .nil a1 hdb he hpl, le_call a2⟩
/-- with names -/
def LKA (K : PySem.W.Frag) (w : World) (t : TA) (p : WAO) : Prop := LAA K w t p
structure QKA (X : Cx) (ks : List Keyword) (p : WAO) : Prop where
  ex : ∃ t, PK X ks t ∧ LAA X.K X.w t p
end
end PV
namespace PV
open PySem PySem.Spec PyProof.Rows L2 RZ StX SrtO Kw KL
/-! ### calls with names -/
section
variable {X : Cx} {a e : Expr} {es : List Expr} {kws : List Keyword} {pos p1 : Pos} {p : WE} {po pk : WAO} {K : PySem.W.Frag} {w : World} {x nm : Str} {kpos : Pos}
theorem qka_nil : QKA X [] wNilO := ⟨_, pk_nil, fun C σ H ex Γ e1 e2 R Q' hp Q k => k [] [] H R (.refl H) .nil hp⟩
theorem qka_v (ha : QE X a p) (hr : QKA X kws po) : QKA X (⟨nm, a, kpos⟩ :: kws) (wConsV p po) :=
  let ⟨_, a1, a2⟩ := ha.ex; let ⟨_, r1, r2⟩ := hr.ex; ⟨_, pk_cons a1 r1, fun C σ H ex Γ e1 e2 R Q' hp Q k => a2 C σ H ex Γ e1 e2 R _ hp _ fun v d H1 R1 g1 d1 q1 =>
    r2 C σ H1 ex Γ e1 e2 R1 _ q1 _ fun vs as H2 R2 g2 d2 q2 => k _ _ H2 R2 (g1.trans g2) (.cons (ArgAt.grow R1 g2 (x := .val d) d1) d2) q2⟩
/-- how the arguments come to their places -/
def Places (gV : List V → List V → List V) (gA : List AV → List AV → List AV) : Prop := ∀ (R : V → AV → Prop) (vs : List V) (as : List AV) (ws : List V) (bs : List AV), Paired R vs as → Paired R ws bs → Paired R (gV vs ws) (gA as bs)
abbrev wCallK (sp : PSp) (gA : List AV → List AV → List AV) (p q : WAO) : WE := fun Γ Q => p Γ fun as => q Γ fun bs => sp (gA as bs) Q
abbrev wCallN (sp : PSp) (gA : List AV → List AV → List AV) (q : WAO) : WE := fun Γ Q => q Γ fun bs => sp (gA [] bs) Q
variable {k : Nat} {f : Addr} {fd : FuncData} {ps ks : List Str} {sp : PSp} {g : List Value → List Value → List Value} {gV : List V → List V → List V} {gA : List AV → List AV → List AV}
theorem sp_go {C : Ctx} {σ : L2.St} {H H1 : Hp} {ex : List Addr} {Γ : VEnv} (e1 : C.K = K) (e2 : C.w = w) (R1 : Rel C σ H1 ex Γ) (g1 : Grow C H H1) {vs : List V} {as : List AV} (d1 : Paired (ArgAt C H1 ex) vs as) {Q' : PyData → Prop} (q1 : sp as Q') {Q : VK}
    (k : ∀ v d H', Rel C σ H' ex Γ → Grow C H H' → Dd C.K (Mask H' ex) v d → Q' d → Q v H') : spV K w sp vs H1 Q E0 := by
  refine ⟨{ C with ex0 := ex, H0 := H1, M := C.dk, dkE := fun a h => R1.exs a (C.dkE a h), dkM := fun _ h => h, ME := fun a h => R1.exs a (C.dkE a h) }, as, Q', e1, e2, ?_, R1.all, R1.deck, q1, fun r v H' hq g hd hA hv => ?_⟩
  · exact d1
  · have g' : Grow C H1 H' := g
    exact k v r H' (R1.grow g' hd hA) (g1.trans g') (by rw [e1]; exact hv) hq
theorem q_callK (G : GFn X.prog X.w X.K X.mg X.base k f fd ps (spV X.K X.w sp)) (hq : Quiet X.A) (hr : Room k X.A) (hg : Gl X x) (hm : X.mg x = some (.ref f))
    (hk : PySem.W.keepIn X.K (.ref f) = true) (hb : KBinds X.K fd ps ks g gV) (pl : Places gV gA) (ha : QAA X (e :: es) po) (hkw : QKA X kws pk)
    (hall : (backToKw pos (keywordEach kws X.env)).all (·.1.isSome) = true := by rfl) (hks : (backToKw pos (keywordEach kws X.env)).filterMap (·.1) = ks := by rfl) (hdb : (x == ("__debug__" : Str)) = false := by decide)
    (he : starEach (e :: es) X.env = (false, eval e X.env) :: starEach es X.env := by rfl)
    (hpl : ((backTo pos (starEach (e :: es) X.env)).any (·.1) || (backToKw pos (keywordEach kws X.env)).any (·.1.isNone)) = false := by rfl) : QE X (.Call (.Name x p1) (e :: es) kws pos) (wCallK sp gA po pk) :=
  let ⟨_, a1, a2⟩ := ha.ex; let ⟨_, b1, b2⟩ := hkw.ex; ⟨_, pe_callKG G hq hr hg hm hk hb a1 b1 hall hks hdb he hpl, fun C σ H ex Γ e1 e2 R Q' hp Q k => a2 C σ H ex Γ e1 e2 R _ hp _ fun vs as H1 R1 g1 d1 q1 =>
    b2 C σ H1 ex Γ e1 e2 R1 _ q1 _ fun ws bs H2 R2 g2 d2 q2 => sp_go e1 e2 R2 (g1.trans g2) (pl _ _ _ _ _ (paired_mono (fun _ _ z => ArgAt.grow R1 g2 z) d1) d2) q2 k⟩
theorem q_callN (G : GFn X.prog X.w X.K X.mg X.base k f fd ps (spV X.K X.w sp)) (hq : Quiet X.A) (hr : Room k X.A) (hg : Gl X x) (hm : X.mg x = some (.ref f))
    (hk : PySem.W.keepIn X.K (.ref f) = true) (hb : KBinds X.K fd ps ks g gV) (pl : Places gV gA) (hkw : QKA X kws pk)
    (hall : (backToKw pos (keywordEach kws X.env)).all (·.1.isSome) = true := by rfl) (hks : (backToKw pos (keywordEach kws X.env)).filterMap (·.1) = ks := by rfl) (hdb : (x == ("__debug__" : Str)) = false := by decide)
    (hpl : ((backTo pos (starEach [] X.env)).any (·.1) || (backToKw pos (keywordEach kws X.env)).any (·.1.isNone)) = false := by rfl) : QE X (.Call (.Name x p1) [] kws pos) (wCallN sp gA pk) :=
  let ⟨_, b1, b2⟩ := hkw.ex; ⟨_, pe_callN G hq hr hg hm hk hb b1 hall hks hdb hpl, fun C σ H ex Γ e1 e2 R Q' hp Q k =>
    b2 C σ H ex Γ e1 e2 R _ hp _ fun ws bs H2 R2 g2 d2 q2 => sp_go e1 e2 R2 g2 (pl _ _ _ _ _ .nil d2) q2 k⟩
end
/-! ### the law -/
def sp_law (K : PySem.W.Frag) : Sp := fun vs H Q _ => ∃ (a : Addr) (ns : List Int), vs = [.ref a] ∧ SqL K H a (ns.map V.int) ∧ ns.length ≤ 63 ∧ ∀ H', Q (.bl true) H'
def sp_deck (K : PySem.W.Frag) : Sp := fun vs H Q _ => ∃ (a : Addr) (ns : List Int), vs = [.ref a] ∧ SqL K H a (ns.map V.int) ∧ ns.length ≤ 63 ∧ ∀ d l H', Same H H' → H d = none → H l = none → DeckAt H' d l → Q (.ref d) H'
def deckC (K : PySem.W.Frag) (w : World) (H : Hp) (d l : Addr) : Ctx where
  K := K
  w := w
  H0 := H
  ex0 := [d, l]
  dk := [d, l]
  M := [d, l]
  dok := fun H => DeckAt H d l
  stab := fun H H' h k => by
    obtain ⟨m, n, cs, h1, h2, h3⟩ := k.ex
    exact ⟨m, n, cs, h d (by simp) _ h1, h l (by simp) _ h2, h3⟩
  dkE := fun _ h => h
  dkM := fun _ h => h
  ME := fun _ h => h
theorem deck_all {H : Hp} {d l : Addr} (k : DeckAt H d l) : ∀ a ∈ [d, l], ∃ o, H a = some o ∧ NT o := fun a ha => by
  obtain ⟨m, n, cs, h1, h2, h3⟩ := k.ex
  rcases List.mem_cons.mp ha with rfl | ha
  · exact ⟨_, h1, fun _ q => (by cases q), fun _ _ q => (by cases q)⟩
  · obtain rfl := List.mem_singleton.mp ha
    exact ⟨_, h2, fun _ q => (by cases q), fun _ _ q => (by cases q)⟩
theorem law_rel {K : PySem.W.Frag} {w : World} {H : Hp} {d l : Addr} (n i : Nat) (τ : L2.St) (hn : τ.length = n) (k : DeckAt H d l) : Rel (deckC K w H d l) (τ.set i (some (.ref d))) H [d, l] ((List.replicate n none).set i (some .deck)) where
  len := by rw [List.length_set, List.length_set, List.length_replicate, hn]
  slot := fun j x e => by
    rcases getSet e with ⟨rfl, e, hl⟩ | ⟨c, e⟩
    · cases e
      rw [List.length_replicate] at hl
      exact ⟨.ref d, List.getElem?_set_self (by rw [hn]; exact hl), d, l, rfl, rfl, rfl⟩
    · have := (List.mem_replicate.mp (List.mem_of_getElem? e)).2
      cases this
  apart := fun j j' x y a hn h1 h2 m1 m2 s1 s2 => by
    rcases getSet h1 with ⟨rfl, e, hl⟩ | ⟨c, e⟩
    · cases e; exact m1
    · have := (List.mem_replicate.mp (List.mem_of_getElem? e)).2
      cases this
  exs := fun _ h => h
  all := deck_all k
  keep := fun _ _ _ e => e
  deck := k
section
variable {P : Program} {w : World} {K : PySem.W.Frag} {mg : Str → Option Value} {base : Heap}
/-- the law's own body behind its first row -/
theorem law_V {st s1 : Stmt} {rest : List Stmt} {f : Addr} {fd : FuncData} {N : List Str} {i k : Nat} {p : WS} {x : Str} (F : Fun K "law" "law" st f fd) (S : FnScope N ["_law_script"] (defScope st)) (hb : defBody st = s1 :: rest)
    (h1 : ∀ (cdv : Value) (A : Around) (outer : List Env) (s : Shared) (H : Hp) (E : XK), Quiet (A.deeper (envOfC "law" (defScope st) s.heap.objs.size f cdv)) → Room k (A.deeper (envOfC "law" (defScope st) s.heap.objs.size f cdv)) →
      PS (cxOf CX0 P w K mg base N "law" (defScope st) f cdv A outer s H E).nox s1 (tAsg (tCall (sp_deck K) [] E0 (tCons (tVar 0) tNil)) (gName i)))
    (h2 : ∀ (cdv : Value) (A : Around) (outer : List Env) (s : Shared) (H : Hp) (E : XK), Quiet (A.deeper (envOfC "law" (defScope st) s.heap.objs.size f cdv)) → Room k (A.deeper (envOfC "law" (defScope st) s.heap.objs.size f cdv)) →
      QSs (cxOf CX0 P w K mg base N "law" (defScope st) f cdv A outer s H E).nox rest p)
    (hN : 1 ≤ N.length) (hp : p { nx := fun _ => False, rt := fun d _ => d = .bool true } ((List.replicate N.length none).set i (some .deck))) : GFn P w K mg base (k + 1) f fd ["_law_script"] (sp_law K) := by
  refine gfn_of F S (fun vs H Q E h => ?_) (fun cdv A outer s H vs Q E hq hr h => ?_)
  · obtain ⟨a, ns, rfl, _⟩ := h
    rfl
  obtain ⟨a, ns, rfl, hs, hl, q⟩ := h
  obtain ⟨t, b1, b2⟩ := (h2 cdv A outer s H E hq hr).ex
  rw [hb]
  refine ⟨_, pss_cons (h1 cdv A outer s H E hq hr) b1, ?_⟩
  have hl0 : (L2.start N [V.ref a])[0]? = some (some (.ref a)) := rfl
  refine ⟨_, hl0, a, ns, rfl, hs, hl, fun d l H' sm nd nl hD => ?_⟩
  refine b2 (deckC K w H' d l) _ H' [d, l] _ rfl rfl (law_rel N.length i _ ?_ hD) _ hp _ ⟨fun _ _ _ _ _ _ q => q.elim, fun σ' H2 ex' Γ' v e R' hd qe => ?_, fun _ _ _ _ _ _ q => q.elim, fun _ _ _ _ _ _ q => q.elim⟩
  · unfold L2.start
    rw [List.length_append, List.length_map, List.length_replicate, List.length_singleton]
    omega
  · subst qe
    cases hd
    exact q _
/-- a draw, as the older promise has it -/
def sp_drawOld : Sp := fun vs H Q _ => ∃ (d l : Addr) (many : Int), vs = [.ref d, .int many] ∧ DeckAt H d l ∧ 1 ≤ many ∧ many.natAbs < 2 ^ 2000 ∧
  ∀ (v : Int) (H' : Hp), 0 ≤ v → v < many → Stp d l H H' → Q (.int v) H'
def vp__law_draw : PSp := fun as Q => ∃ many : Int, as = [.deck, .val (.int many)] ∧ 1 ≤ many ∧ many.natAbs < 2 ^ 2000 ∧ ∀ v : Int, 0 ≤ v → v < many → Q (.int v)
theorem draw_of {k : Nat} {f : Addr} {fd : FuncData} {ps : List Str} (G : GFn P w K mg base k f fd ps sp_drawOld) : GFn P w K mg base k f fd ps (spV K w vp__law_draw) := PV.GFn.imp G fun vs H Q E h => by
  obtain ⟨C, as, Q', e1, e2, h1, hA, hd, ⟨many, rfl, m1, m2, m3⟩, h5⟩ := h
  cases h1 with
  | cons r1 h1 =>
    obtain ⟨d, l, rfl, ek, eo⟩ := r1
    cases h1 with
    | cons r2 h2 =>
      cases h2
      cases r2
      rw [eo] at hd
      refine ⟨d, l, many, rfl, hd, m1, m2, fun v H' v0 v1 st => h5 _ _ H' (m3 v v0 v1) (fun a o n e => ?_) (by rw [eo]; exact st.post) (fun a ha => ?_) (.int v)⟩
      · rw [ek] at n
        exact st.kp a o (fun z => n (z ▸ List.mem_cons_self)) (fun z => n (z ▸ List.mem_cons_of_mem _ List.mem_cons_self)) e
      · rw [ek] at ha
        exact deck_all st.post a ha
end
end PV
namespace PV
open PySem PySem.Spec PyProof.Rows L2 RZ StX SrtO Kw KL
/-! ### forms for readings -/
theorem ifd {p : Prop} [Decidable p] {A B : Prop} (h1 : p → A) (h2 : ¬ p → B) : if decide p = true then A else B := by
  by_cases c : p
  · rw [if_pos (decide_eq_true c)]; exact h1 c
  · rw [if_neg (by rw [decide_eq_false c]; exact Bool.false_ne_true)]; exact h2 c
theorem ifn {p : Prop} [Decidable p] {A B : Prop} (h1 : ¬ p → A) (h2 : p → B) : if (!decide p) = true then A else B := by
  by_cases c : p
  · rw [decide_eq_true c, if_neg (by decide)]; exact h2 c
  · rw [decide_eq_false c, if_pos (by decide)]; exact h1 c
theorem ifb {b : Bool} {A B : Prop} (h1 : b = true → A) (h2 : b = false → B) : if b = true then A else B := by
  cases b with
  | true => exact h1 rfl
  | false => exact h2 rfl
theorem ift {A B : Prop} (h : A) : if true = true then A else B := h
theorem iff' {A B : Prop} (h : B) : if false = true then A else B := h
/-- while: the slots by what they hold, a word, a measure -/
theorem while_w {α : Type} {c : WT} {body : WS} {E : WEnds} {Γ : VEnv} (st : α → VEnv) (P : α → Prop) (μ : α → Nat) (a0 : α) (e : Γ = st a0) (h0 : P a0)
    (step : ∀ a, P a → c (st a) fun b => if b = true then body { nx := fun Γ' => ∃ a', Γ' = st a' ∧ P a' ∧ μ a' < μ a, ct := fun Γ' => ∃ a', Γ' = st a' ∧ P a' ∧ μ a' < μ a, bk := E.nx, rt := E.rt } (st a) else E.nx (st a)) : wWhile c body E Γ := by
  refine ⟨fun m Γ => ∃ a, Γ = st a ∧ P a ∧ μ a = m, ⟨μ a0, a0, e, h0, rfl⟩, ?_⟩
  rintro m _ ⟨a, rfl, hP, rfl⟩
  have k : (fun Γ' => ∃ m', m' < μ a ∧ ∃ a', Γ' = st a' ∧ P a' ∧ μ a' = m') = fun Γ' => ∃ a', Γ' = st a' ∧ P a' ∧ μ a' < μ a := funext fun Γ' => propext
    ⟨fun ⟨m', l, a', h1, h2, h3⟩ => ⟨a', h1, h2, h3 ▸ l⟩, fun ⟨a', h1, h2, h3⟩ => ⟨_, h3, a', h1, h2, rfl⟩⟩
  dsimp only
  rw [k]
  exact step a hP
/-- for: the slots by what they hold, a word by the turn -/
theorem for_w {α : Type} {ds : List PyData} {g : WG} {body : WS} {E : WEnds} {Γ : VEnv} (st : α → VEnv) (P : Nat → α → Prop) (a0 : α) (e : Γ = st a0) (h0 : P 0 a0)
    (step : ∀ i x a, ds[i]? = some x → P i a → g x (st a) fun Γ1 => body { nx := fun Γ' => ∃ a', Γ' = st a' ∧ P (i + 1) a', ct := fun Γ' => ∃ a', Γ' = st a' ∧ P (i + 1) a', bk := E.nx, rt := E.rt } Γ1)
    (fin : ∀ a, P ds.length a → E.nx (st a)) :
    ∃ I : Nat → VEnv → Prop, I 0 Γ ∧ (∀ (i : Nat) (x : PyData) (Γ : VEnv), ds[i]? = some x → I i Γ → g x Γ fun Γ1 => body { nx := I (i + 1), ct := I (i + 1), bk := E.nx, rt := E.rt } Γ1) ∧ ∀ Γ, I ds.length Γ → E.nx Γ := by
  refine ⟨fun i Γ => ∃ a, Γ = st a ∧ P i a, ⟨a0, e, h0⟩, ?_, ?_⟩
  · rintro i x _ hx ⟨a, rfl, hP⟩
    exact step i x a hx hP
  · rintro _ ⟨a, rfl, hP⟩
    exact fin a hP
/-- [f x for x in xs] -/
theorem comp_map {g : WG} {te : WE} {Γ : VEnv} {xs : List PyData} {Q : List PyData → Prop} (f : PyData → PyData) (h : ∀ (i : Nat) (x : PyData), xs[i]? = some x → ∀ R : PyData → Prop, R (f x) → g x Γ fun Γ1 => te Γ1 R) (q : Q (xs.map f)) : CompP g wYes te Γ xs Q := by
  refine ⟨fun i acc => acc = (xs.take i).map f, rfl, fun i x acc hx e => ?_, fun acc e => ?_⟩
  · refine h i x hx _ ?_
    show acc ++ [f x] = _
    rw [e, List.take_add_one, hx]
    simp
  · rw [e, List.take_length]
    exact q
/-- [f x for x in xs if ..] -/
theorem comp_fm {g : WG} {tt : WT} {te : WE} {Γ : VEnv} {xs : List PyData} {Q : List PyData → Prop} (f : PyData → Option PyData) (h : ∀ (i : Nat) (x : PyData), xs[i]? = some x → ∀ R : Option PyData → Prop, R (f x) → g x Γ fun Γ1 => tt Γ1 fun b => if b = true then te Γ1 fun y => R (some y) else R none)
    (q : Q (xs.filterMap f)) : CompP g tt te Γ xs Q := by
  refine ⟨fun i acc => acc = (xs.take i).filterMap f, rfl, fun i x acc hx e => ?_, fun acc e => ?_⟩
  · have := h i x hx (fun o => acc ++ o.toList = (xs.take (i + 1)).filterMap f) ?_
    · simpa using this
    · rw [e, List.take_add_one, hx]
      simp only [Option.toList_some, List.filterMap_append]
      cases eq : f x <;> simp [List.filterMap, eq]
  · rw [e, List.take_length]
    exact q
/-- [e for x in xs], each with what is told of it -/
theorem comp_all {g : WG} {te : WE} {Γ : VEnv} {xs : List PyData} {Q : List PyData → Prop} (S : PyData → PyData → Prop) (h : ∀ (i : Nat) (x : PyData), xs[i]? = some x → ∀ R : PyData → Prop, (∀ y, S x y → R y) → g x Γ fun Γ1 => te Γ1 R)
    (q : ∀ ys, Paired S xs ys → Q ys) : CompP g wYes te Γ xs Q := by
  refine ⟨fun i acc => Paired S (xs.take i) acc, .nil, fun i x acc hx e => ?_, fun acc e => ?_⟩
  · refine h i x hx _ fun y hy => ?_
    show Paired S (xs.take (i + 1)) (acc ++ [y])
    rw [List.take_add_one, hx]
    have app : ∀ {l m : List PyData} {a b : PyData}, Paired S l m → S a b → Paired S (l ++ [a]) (m ++ [b]) := by
      intro l m a b hl hs
      induction hl with
      | nil => exact .cons hs .nil
      | cons r t ih => exact .cons r ih
    exact app e hy
  · have e : Paired S (xs.take xs.length) acc := e
    rw [List.take_length] at e
    exact q _ e
end PV
namespace PV
open PySem PySem.Spec PyProof.Rows L2 RZ StX SrtO Kw KL
/-! ### isinstance -/
def dty : PyData → String
  | .none => "NoneType"
  | .bool _ => "bool"
  | .int _ => "int"
  | .str _ => "str"
  | .list _ => "list"
  | .tuple _ => "tuple"
  | .dict _ => "dict"
theorem dd_ty {K : PySem.W.Frag} {H : Hp} {v : V} {d : PyData} (h : Dd K H v d) : TyX K H v (.type (dty d)) := by
  cases h with
  | non => exact .base .non
  | bl b => exact .base (.bl b)
  | int i => exact .base (.int i)
  | str x => exact .base (.str x)
  | lst h1 h2 => exact .base (.lst h1)
  | tup h1 h2 =>
    rcases h1 with (h | ⟨o, h⟩) | ⟨o, its, n, hk, hc, _⟩
    · exact .base (.tup h)
    · exact .fTuple h
    · exact .kTuple hk hc
def isI : PyData → Bool
  | .int _ => true
  | .bool _ => true
  | _ => false
def isB : PyData → Bool
  | .bool _ => true
  | _ => false
def isT : PyData → Bool
  | .tuple _ => true
  | _ => false
def isS : PyData → Bool
  | .str _ => true
  | _ => false
def isL : PyData → Bool
  | .list _ => true
  | _ => false
theorem kb_I : ∀ d : PyData, kitB (dty d) "int" = some (isI d)
  | .none => (by decide +kernel : kitB "NoneType" "int" = some false)
  | .bool _ => (by decide +kernel : kitB "bool" "int" = some true)
  | .int _ => (by decide +kernel : kitB "int" "int" = some true)
  | .str _ => (by decide +kernel : kitB "str" "int" = some false)
  | .list _ => (by decide +kernel : kitB "list" "int" = some false)
  | .tuple _ => (by decide +kernel : kitB "tuple" "int" = some false)
  | .dict _ => (by decide +kernel : kitB "dict" "int" = some false)
theorem kb_B : ∀ d : PyData, kitB (dty d) "bool" = some (isB d)
  | .none => (by decide +kernel : kitB "NoneType" "bool" = some false)
  | .bool _ => (by decide +kernel : kitB "bool" "bool" = some true)
  | .int _ => (by decide +kernel : kitB "int" "bool" = some false)
  | .str _ => (by decide +kernel : kitB "str" "bool" = some false)
  | .list _ => (by decide +kernel : kitB "list" "bool" = some false)
  | .tuple _ => (by decide +kernel : kitB "tuple" "bool" = some false)
  | .dict _ => (by decide +kernel : kitB "dict" "bool" = some false)
theorem kb_T : ∀ d : PyData, kitB (dty d) "tuple" = some (isT d)
  | .none => (by decide +kernel : kitB "NoneType" "tuple" = some false)
  | .bool _ => (by decide +kernel : kitB "bool" "tuple" = some false)
  | .int _ => (by decide +kernel : kitB "int" "tuple" = some false)
  | .str _ => (by decide +kernel : kitB "str" "tuple" = some false)
  | .list _ => (by decide +kernel : kitB "list" "tuple" = some false)
  | .tuple _ => (by decide +kernel : kitB "tuple" "tuple" = some true)
  | .dict _ => (by decide +kernel : kitB "dict" "tuple" = some false)
theorem kb_S : ∀ d : PyData, kitB (dty d) "str" = some (isS d)
  | .none => (by decide +kernel : kitB "NoneType" "str" = some false)
  | .bool _ => (by decide +kernel : kitB "bool" "str" = some false)
  | .int _ => (by decide +kernel : kitB "int" "str" = some false)
  | .str _ => (by decide +kernel : kitB "str" "str" = some true)
  | .list _ => (by decide +kernel : kitB "list" "str" = some false)
  | .tuple _ => (by decide +kernel : kitB "tuple" "str" = some false)
  | .dict _ => (by decide +kernel : kitB "dict" "str" = some false)
theorem kb_L : ∀ d : PyData, kitB (dty d) "list" = some (isL d)
  | .none => (by decide +kernel : kitB "NoneType" "list" = some false)
  | .bool _ => (by decide +kernel : kitB "bool" "list" = some false)
  | .int _ => (by decide +kernel : kitB "int" "list" = some false)
  | .str _ => (by decide +kernel : kitB "str" "list" = some false)
  | .list _ => (by decide +kernel : kitB "list" "list" = some true)
  | .tuple _ => (by decide +kernel : kitB "tuple" "list" = some false)
  | .dict _ => (by decide +kernel : kitB "dict" "list" = some false)
section
variable {X : Cx} {a t : Expr} {pos p1 : Pos} {p : WE} {x : Str}
abbrev wIsi (f : PyData → Bool) (p : WE) : WE := fun Γ Q => p Γ fun d => Q (.bool (f d))
theorem q_isi {ty : String} {f : PyData → Bool} (hf : ∀ d, kitB (dty d) ty = some (f d)) (hg : Gl X "isinstance") (hm : X.mg "isinstance" = none) (ht : PE X t (tC (.ty ty))) (ha : QB X a p)
    (he : starEach [a, t] X.env = (false, eval a X.env) :: starEach [t] X.env := by rfl) (hpl : (backTo pos (starEach [t] X.env)).any (·.1) = false := by rfl) (he2 : starEach [t] X.env = (false, eval t X.env) :: starEach [] X.env := by rfl) :
    QE X (.Call (.Name "isinstance" p1) [a, t] [] pos) (wIsi f p) :=
  let ⟨_, a1, a2⟩ := ha.ex; ⟨_, pe_callB call_isi hg hm (by decide +kernel) (pa_cons a1 (pa_cons ht pa_nil he2) he) (by decide) (by decide) he hpl, fun C σ H ex Γ e1 e2 R Q' hp Q k => a2 C σ H ex Γ e1 e2 R _ hp _ fun v d H1 R1 g1 d1 q1 =>
    ⟨v, _, .type (dty d), _, f d, rfl, ClsV.ty ty, e1 ▸ dd_ty d1.full, kit_ty (hf d), k _ _ H1 R1 g1 (.bl _) q1⟩⟩
end
end PV
namespace PV
open PySem PySem.Spec PyProof.Rows L2 RZ StX SrtO Kw KL
/-! ### dicts whose keys are tuples -/
def getE (es : List (NK × PyData)) (k : NK) : Option PyData := (es.find? fun p => decide (p.1 = k)).map (·.2)
def putE (es : List (NK × PyData)) (k : NK) (d : PyData) : List (NK × PyData) := if (getE es k).isSome = true then es.map (fun p => if p.1 = k then (p.1, d) else p) else es ++ [(k, d)]
theorem getE_cons_eq {p : NK × PyData} {es : List (NK × PyData)} {k : NK} (e : p.1 = k) : getE (p :: es) k = some p.2 := by
  unfold getE
  rw [List.find?_cons, decide_eq_true e]
  rfl
theorem getE_cons_ne {p : NK × PyData} {es : List (NK × PyData)} {k : NK} (e : ¬ p.1 = k) : getE (p :: es) k = getE es k := by
  unfold getE
  rw [List.find?_cons, decide_eq_false e]
section
variable {K : PySem.W.Frag} {B : Hp}
theorem ent_get {ks : Ents} {es : List (NK × PyData)} (h : Paired (EntAt K B) ks es) (k : NK) : (valN ks k = none ∧ getE es k = none) ∨ ∃ v d, valN ks k = some v ∧ getE es k = some d ∧ Dd K B v d := by
  induction h with
  | nil => exact .inl ⟨rfl, rfl⟩
  | cons r t ih =>
    rename_i a b l m
    by_cases c : a.1 = k
    · exact .inr ⟨_, _, valN_cons_eq c, getE_cons_eq (r.1 ▸ c), r.2.2⟩
    · rw [valN_cons_ne c, getE_cons_ne (fun z => c (r.1.trans z))]
      exact ih
theorem ent_some {ks : Ents} {es : List (NK × PyData)} (h : Paired (EntAt K B) ks es) (k : NK) : (valN ks k).isSome = (getE es k).isSome := by
  rcases ent_get h k with ⟨h1, h2⟩ | ⟨v, d, h1, h2, _⟩ <;> rw [h1, h2] <;> rfl
theorem ent_snoc {ks : Ents} {es : List (NK × PyData)} {a : NK × Addr × V} {b : NK × PyData} (h : Paired (EntAt K B) ks es) (r : EntAt K B a b) : Paired (EntAt K B) (ks ++ [a]) (es ++ [b]) := by
  induction h with
  | nil => exact .cons r .nil
  | cons r' _ ih => exact .cons r' ih
theorem ent_repl {ks : Ents} {es : List (NK × PyData)} (h : Paired (EntAt K B) ks es) {k : NK} {v : V} {d : PyData} (hd : Dd K B v d) : Paired (EntAt K B) (ks.map fun p => if p.1 = k then (p.1, p.2.1, v) else p) (es.map fun p => if p.1 = k then (p.1, d) else p) := by
  induction h with
  | nil => exact .nil
  | cons r t ih =>
    rename_i a b l m
    refine .cons ?_ ih
    dsimp only
    by_cases c : a.1 = k
    · rw [if_pos c, if_pos (r.1 ▸ c)]
      exact ⟨r.1, r.2.1, hd⟩
    · rw [if_neg c, if_neg (fun z => c (r.1.trans z))]
      exact r
theorem ent_put {ks : Ents} {es : List (NK × PyData)} (h : Paired (EntAt K B) ks es) {k : NK} {b : Addr} {v : V} {d : PyData} (hk : KeyN K B k b) (hd : Dd K B v d) : Paired (EntAt K B) (putN ks k b v) (putE es k d) := by
  unfold putN putE
  rw [ent_some h k]
  by_cases c : (getE es k).isSome = true
  · rw [if_pos c, if_pos c]
    exact ent_repl h hd
  · rw [if_neg c, if_neg c]
    exact ent_snoc h ⟨rfl, hk, hd⟩
theorem ent_keys {H : Hp} (s : Same B H) {ks : Ents} {es : List (NK × PyData)} (h : Paired (EntAt K B) ks es) : KeysN K H ks := by
  induction h with
  | nil => exact fun p hp => absurd hp List.not_mem_nil
  | cons r t ih =>
    intro p hp
    rcases List.mem_cons.mp hp with rfl | hp
    · exact ⟨dpp_mono s r.2.1.dp, r.2.1.le⟩
    · exact ih p hp
theorem ent_len {ks : Ents} {es : List (NK × PyData)} (h : Paired (EntAt K B) ks es) : ks.length = es.length := pair_len h
end
/-- a key, as data -/
def keyW (x : PyData) (Q : NK → Prop) : Prop := ∃ k : NK, k.data = x ∧ k.depth ≤ 8 ∧ isT x = true ∧ Q k
def slotD (Γ : VEnv) (i : Nat) (Q : List (NK × PyData) → Prop) : Prop := match Γ[i]? with | some (some (.dct _ es)) => Q es | some (some (.dlk es)) => Q es | some (some (.pdt _ es)) => Q es | _ => False
def isD (x : AV) (es : List (NK × PyData)) : Prop := (∃ lk, x = .dct lk es) ∨ x = .dlk es ∨ ∃ a, x = .pdt a es
theorem slotD_of {Γ : VEnv} {i : Nat} {Q : List (NK × PyData) → Prop} (h : slotD Γ i Q) : ∃ x es, Γ[i]? = some (some x) ∧ isD x es ∧ Q es := by
  unfold slotD at h
  split at h
  · rename_i lk es e; exact ⟨_, es, e, .inl ⟨lk, rfl⟩, h⟩
  · rename_i es e; exact ⟨_, es, e, .inr (.inl rfl), h⟩
  · rename_i a es e; exact ⟨_, es, e, .inr (.inr ⟨a, rfl⟩), h⟩
  · exact h.elim
theorem Rel.dict {C : Ctx} {σ : L2.St} {H : Hp} {ex : List Addr} {Γ : VEnv} (R : Rel C σ H ex Γ) {i : Nat} {x : AV} {es : List (NK × PyData)} (h : Γ[i]? = some (some x)) (hd : isD x es) :
    ∃ a ks, σ[i]? = some (some (.ref a)) ∧ a ∈ ex ∧ a ∉ C.dk ∧ Rd H a (DicN C.w a ks) ∧ Paired (EntAt C.K (Mask H ex)) ks es := by
  obtain ⟨v, s, hv⟩ := R.slot i x h
  rcases hd with ⟨lk, rfl⟩ | rfl | ⟨a0, rfl⟩
  · obtain ⟨a, ks, rfl, h2, h3, h4, h5⟩ := hv
    refine ⟨a, ks, s, h2, h3, ?_, h5⟩
    cases lk with
    | true => rw [if_pos rfl] at h4; exact h4
    | false => rw [if_neg Bool.false_ne_true] at h4; exact .inl h4.1
  · obtain ⟨a, ks, o, rfl, h2, h3, h4, h5⟩ := hv
    exact ⟨a, ks, s, h2, h3.1, .inr ⟨o, h4⟩, h5⟩
  · obtain ⟨ks, rfl, h2, h3, h4, h5⟩ := hv
    exact ⟨a0, ks, s, h2, h3, .inl h4.1, h5⟩
/-- unlocked -/
def slotU (Γ : VEnv) (i : Nat) (Q : List (NK × PyData) → Prop) : Prop := match Γ[i]? with | some (some (.dct false es)) => Q es | _ => False
theorem slotU_of {Γ : VEnv} {i : Nat} {Q : List (NK × PyData) → Prop} (h : slotU Γ i Q) : ∃ es, Γ[i]? = some (some (.dct false es)) ∧ Q es := by
  unfold slotU at h
  split at h
  · rename_i es e; exact ⟨es, e, h⟩
  · exact h.elim
/-- unlocked, the def's own or given to be changed -/
def slotM (Γ : VEnv) (i : Nat) (Q : (List (NK × PyData) → AV) → List (NK × PyData) → Prop) : Prop := match Γ[i]? with | some (some (.dct false es)) => Q (.dct false) es | some (some (.pdt a es)) => Q (.pdt a) es | _ => False
def isM (mk : List (NK × PyData) → AV) : Prop := mk = .dct false ∨ ∃ a, mk = .pdt a
theorem slotM_of {Γ : VEnv} {i : Nat} {Q : (List (NK × PyData) → AV) → List (NK × PyData) → Prop} (h : slotM Γ i Q) : ∃ mk es, Γ[i]? = some (some (mk es)) ∧ isM mk ∧ Q mk es := by
  unfold slotM at h
  split at h
  · rename_i es e; exact ⟨_, es, e, .inl rfl, h⟩
  · rename_i a es e; exact ⟨_, es, e, .inr ⟨a, rfl⟩, h⟩
  · exact h.elim
theorem isM.mut {mk : List (NK × PyData) → AV} (h : isM mk) (es : List (NK × PyData)) : (mk es).mut := by
  rcases h with rfl | ⟨a, rfl⟩
  · rfl
  · exact True.intro
theorem Rel.own {C : Ctx} {σ : L2.St} {H : Hp} {ex : List Addr} {Γ : VEnv} (R : Rel C σ H ex Γ) {i : Nat} {mk : List (NK × PyData) → AV} {es : List (NK × PyData)} (h : Γ[i]? = some (some (mk es))) (hm : isM mk) :
    ∃ a ks, σ[i]? = some (some (.ref a)) ∧ a ∈ ex ∧ a ∉ C.dk ∧ H a = some (DicN C.w a ks) ∧ (Mine C a ∨ a ∈ C.M) ∧ Paired (EntAt C.K (Mask H ex)) ks es ∧
      ∀ (H' : Hp) (ks' : Ents) (es' : List (NK × PyData)), H' a = some (DicN C.w a ks') → Paired (EntAt C.K (Mask H' ex)) ks' es' → AvAt C H' ex (.ref a) (mk es') := by
  obtain ⟨v, s, hv⟩ := R.slot i _ h
  rcases hm with rfl | ⟨a0, rfl⟩
  · obtain ⟨a, ks, rfl, h2, h3, h4, h5⟩ := hv
    rw [if_neg Bool.false_ne_true] at h4
    exact ⟨a, ks, s, h2, h3, h4.1, h4.2, h5, fun H' ks' es' e p => ⟨a, ks', rfl, h2, h3, by rw [if_neg Bool.false_ne_true]; exact ⟨e, h4.2⟩, p⟩⟩
  · obtain ⟨ks, rfl, h2, h3, h4, h5⟩ := hv
    exact ⟨a0, ks, s, h2, h3, h4.1, .inr h4.2, h5, fun H' ks' es' e p => ⟨ks', rfl, h2, h3, ⟨e, h4.2⟩, p⟩⟩
theorem key_at {K : PySem.W.Frag} {H B : Hp} (s : Same B H) {v : V} {k : NK} (hd : Dd K B v k.data) (ht : isT k.data = true) (hk : k.depth ≤ 8) : ∃ b, v = .ref b ∧ KeyN K H k b ∧ KeyN K B k b := by
  have h := hd.dp
  generalize e : k.data = d at hd ht
  cases hd with
  | tup h1 h2 => exact ⟨_, rfl, ⟨dpp_mono s h, hk⟩, ⟨h, hk⟩⟩
  | _ => cases ht
section
variable {X : Cx} {a e i0 : Expr} {es : List Expr} {pos : Pos} {p q : WE} {po : WAO} {K : PySem.W.Frag} {w : World} {x : Str} {xp apos cpos : Pos} {pa : WA}
/-- d[k] -/
abbrev wDget (i : Nat) (p : WE) : WE := fun Γ Q => slotD Γ i fun es => p Γ fun x => keyW x fun k => optW (getE es k) Q
theorem q_dget (i : Nat) (hu : X.A.units + 64 < cLine) (hk : QE X i0 p) (hN : X.N[i]? = some x := by rfl) (hv : Vis X.env.scope x := by first | exact Or.inl rfl | exact Or.inr (Or.inl rfl) | exact Or.inr (Or.inr rfl)) (hd : (x == ("__debug__" : Str)) = false := by decide) (hcd : (x == ("__classdict__" : Str)) = false := by decide) (hs : NoSl i0 := by exact fun _ _ => rfl) :
    QE X (.Subscript (.Name x xp) i0 pos) (wDget i p) := let ⟨_, a1, a2⟩ := hk.ex; ⟨_, pe_dgetN hu (pe_var hN hv hd hcd) a1 hs rfl rfl, fun C σ H ex Γ e1 e2 R Q' hp Q k => by
  obtain ⟨x0, es, g, hx0, hp⟩ := slotD_of hp
  obtain ⟨a, ks, sv, h2, h3, h4, h5⟩ := R.dict g hx0
  refine ⟨_, sv, a2 C σ H ex Γ e1 e2 R _ hp _ fun y dy H1 R1 g1 d1 q1 => ?_⟩
  obtain ⟨k0, rfl, kd, kt, q1⟩ := q1
  obtain ⟨a', ks', sv', h2', h3', h4', h5'⟩ := R1.dict g hx0
  rw [sv] at sv'
  cases sv'
  obtain ⟨b, rfl, kb, _⟩ := key_at (mask_le H1 ex) d1 kt kd
  obtain ⟨d, ed, q1⟩ := optW_of q1
  rcases ent_get h5' k0 with ⟨_, h⟩ | ⟨v, d', h6, h7, h8⟩
  · rw [ed] at h; cases h
  · rw [ed] at h7
    cases h7
    refine ⟨a, b, ks', k0, v, rfl, rfl, ⟨e2 ▸ h4', e1 ▸ ent_keys (mask_le H1 ex) h5'⟩, e1 ▸ kb, h6, k v d H1 R1 g1 h8 q1⟩⟩
/-- k in d -/
abbrev wInD (i : Nat) (n : Bool) (p : WE) : WE := fun Γ Q => slotD Γ i fun es => p Γ fun x => keyW x fun k => Q (.bool (if n = true then !(getE es k).isSome else (getE es k).isSome))
theorem le_inD (i : Nat) (n : Bool) {te : TE} (h : LE K w te p) : LE K w (tOp (rInN K w n) te (tVar i)) (wInD i n p) := fun C σ H ex Γ e1 e2 R Q' hp Q k => by
  obtain ⟨x0, es, g, hx0, hp⟩ := slotD_of hp
  refine h C σ H ex Γ e1 e2 R _ hp _ fun y dy H1 R1 g1 d1 q1 => ?_
  obtain ⟨k0, rfl, kd, kt, q1⟩ := q1
  obtain ⟨a, ks, sv, h2, h3, h4, h5⟩ := R1.dict g hx0
  obtain ⟨b, rfl, kb, _⟩ := key_at (mask_le H1 ex) d1 kt kd
  refine ⟨_, sv, a, b, ks, k0, rfl, rfl, ⟨e2 ▸ h4, e1 ▸ ent_keys (mask_le H1 ex) h5⟩, e1 ▸ kb, ?_⟩
  rw [ent_some h5 k0]
  exact k _ _ H1 R1 g1 (.bl _) q1
theorem q_inD (i : Nat) (n : Bool) (hu : X.A.units + 64 < cLine) {op : CmpOp} (ho : OpR X (compareOp op) (rInN X.K X.w n)) (hk : QE X a p) (hN : X.N[i]? = some x := by rfl) (hv : Vis X.env.scope x := by first | exact Or.inl rfl | exact Or.inr (Or.inl rfl) | exact Or.inr (Or.inr rfl)) (hd : (x == ("__debug__" : Str)) = false := by decide) (hcd : (x == ("__classdict__" : Str)) = false := by decide) (hm : behindInMarks op (.Name x xp) = false := by rfl) :
    QE X (.Compare a [op] [.Name x xp] pos) (wInD i n p) := let ⟨_, a1, a2⟩ := hk.ex; ⟨_, pe_cmpR ho a1 (pe_var hN hv hd hcd) hm, le_inD i n a2⟩
theorem qt_inD (i : Nat) (n : Bool) (hu : X.A.units + 64 < cLine) {op : CmpOp} (ho : OpR X (compareOp op) (rInN X.K X.w n)) (hk : QE X a p) (hN : X.N[i]? = some x := by rfl) (hv : Vis X.env.scope x := by first | exact Or.inl rfl | exact Or.inr (Or.inl rfl) | exact Or.inr (Or.inr rfl)) (hd : (x == ("__debug__" : Str)) = false := by decide) (hcd : (x == ("__classdict__" : Str)) = false := by decide) (hm : behindInMarks op (.Name x xp) = false := by rfl) :
    QT X (.Compare a [op] [.Name x xp] pos) (wT (wInD i n p)) := let ⟨_, a1, a2⟩ := hk.ex; ⟨_, pt_cmpR ho a1 (pe_var hN hv hd hcd) hm, lt_test (le_inD i n a2)⟩
/-- d.get(k, x): a dict's method -/
def tBMN (K : PySem.W.Frag) (w : World) (r : V → List V → Hp → VK → Prop) (to : TE) (t : TA) : TE := fun σ H Q => to σ H fun x H1 => (∃ a ks, x = .ref a ∧ Rd H1 a (DicN w a ks)) ∧ t σ H1 fun xs H2 => r x xs H2 Q
theorem pe_bmN {o e : Expr} {to : TE} {t : TA} {name : Str} {id : String} {r : V → List V → Hp → VK → Prop} (pa : PlainAttrs "dict") (slot : Slot "dict" name id) (hty : typeOf (.builtin id) = pure (.type "method_descriptor")) (hm : MtR X id r) (ho : PE X o to) (ha : PA X (e :: es) t)
    (hbase : attributeBase o name X.env (eval o X.env) = eval o X.env := by rfl)
    (hfew : ((backTo cpos (starEach (e :: es) X.env)).all (fun x => !x.1) && (backToKw cpos (keywordEach [] X.env)).all (fun x => x.1.isSome)
      && decide ((e :: es).length + ([] : List Keyword).length + (if ([] : List Keyword).isEmpty then 0 else 1) < 30)) = true := by rfl)
    (hline : (apos.endLine == cpos.line) = true := by rfl) (hs : starEach (e :: es) X.env = (false, eval e X.env) :: starEach es X.env := by rfl) (hplain : (backTo cpos (starEach es X.env)).any (·.1) = false := by rfl) :
    PE X (.Call (.Attribute o name apos) (e :: es) [] cpos) (tBMN X.K X.w r to t) := by
  refine ⟨fun pins s σ H Q I h => ?_⟩
  refine wpAny_Call_method_late hbase hfew hline rfl (thn (ho.run pins s σ H _ I h) fun v s1 ⟨x, H1, I1, r1, ⟨a, ks, ex, rd⟩, q1⟩ => ?_)
  subst ex
  obtain rfl : v = Value.ref a := r1
  obtain ⟨h1, h2, _⟩ := rawN_ty I1 rd
  refine ⟨"dict", id, pa, slot, hty, h1, h2, ?_⟩
  have hA := ha.run cpos pins s1 σ H1 _ I1 q1
  rw [hs] at hA ⊢
  refine Calls.callWith_builtin (by show (false || (backTo cpos (starEach es X.env)).any (·.1)) = false; rw [hplain] <;> rfl) (Calls.evalArgs_plain ?_)
  exact thn hA fun us s2 ⟨vs, H2, I2, r2, q2⟩ => hm pins s2 σ H2 (.ref a) vs _ us Q I2 (show L2.RelV (.ref a) (Value.ref a) from rfl) r2 q2
abbrev wDget2 (i : Nat) (p q : WE) : WE := fun Γ Q => slotD Γ i fun es => p Γ fun x => q Γ fun z => keyW x fun k => Q ((getE es k).getD z)
theorem q_dget2 (i : Nat) (hu : X.A.units + 64 < cLine) {b : Expr} (hk : QE X a p) (hz : QE X b q) (hN : X.N[i]? = some x := by rfl) (hv : Vis X.env.scope x := by first | exact Or.inl rfl | exact Or.inr (Or.inl rfl) | exact Or.inr (Or.inr rfl)) (hd : (x == ("__debug__" : Str)) = false := by decide) (hcd : (x == ("__classdict__" : Str)) = false := by decide)
    (hbase : attributeBase (.Name x xp) "get" X.env (eval (.Name x xp) X.env) = eval (.Name x xp) X.env := by rfl)
    (hfew : ((backTo cpos (starEach [a, b] X.env)).all (fun x => !x.1) && (backToKw cpos (keywordEach [] X.env)).all (fun x => x.1.isSome)
      && decide ([a, b].length + ([] : List Keyword).length + (if ([] : List Keyword).isEmpty then 0 else 1) < 30)) = true := by rfl)
    (hline : (apos.endLine == cpos.line) = true := by rfl) (hs : starEach [a, b] X.env = (false, eval a X.env) :: starEach [b] X.env := by rfl) (hplain : (backTo cpos (starEach [b] X.env)).any (·.1) = false := by rfl) (hs2 : starEach [b] X.env = (false, eval b X.env) :: starEach [] X.env := by rfl) :
    QE X (.Call (.Attribute (.Name x xp) "get" apos) [a, b] [] cpos) (wDget2 i p q) := let ⟨_, a1, a2⟩ := hk.ex; let ⟨_, b1, b2⟩ := hz.ex;
  ⟨_, pe_bmN PySem.F.plainAttrs_dict PySem.F.slot_dict_get PySem.F.type_dict_get (mt_getN hu rfl rfl) (pe_var hN hv hd hcd) (pa_cons a1 (pa_cons b1 pa_nil hs2) hs) hbase hfew hline hs hplain, fun C σ H ex Γ e1 e2 R Q' hp Q k => by
  obtain ⟨x0, es, g, hx0, hp⟩ := slotD_of hp
  obtain ⟨a, ks, sv, h2, h3, h4, h5⟩ := R.dict g hx0
  refine ⟨_, sv, ⟨a, ks, rfl, e2 ▸ h4⟩, a2 C σ H ex Γ e1 e2 R _ hp _ fun y dy H1 R1 g1 d1 q1 => b2 C σ H1 ex Γ e1 e2 R1 _ q1 _ fun z dz H2 R2 g2 d2 q2 => ?_⟩
  obtain ⟨k0, rfl, kd, kt, q2⟩ := q2
  obtain ⟨a', ks', sv', h2', h3', h4', h5'⟩ := R2.dict g hx0
  rw [sv] at sv'
  cases sv'
  obtain ⟨b, rfl, kb, _⟩ := key_at (mask_le H2 ex) (dp_mono (g2.mask R1) d1) kt kd
  refine ⟨a, b, ks', k0, z, rfl, rfl, ⟨e2 ▸ h4', e1 ▸ ent_keys (mask_le H2 ex) h5'⟩, e1 ▸ kb, ?_⟩
  rcases ent_get h5' k0 with ⟨h6, h7⟩ | ⟨v, d', h6, h7, h8⟩
  · rw [h6]
    rw [h7] at q2
    exact k _ _ H2 R2 (g1.trans g2) d2 q2
  · rw [h6]
    rw [h7] at q2
    exact k _ _ H2 R2 (g1.trans g2) h8 q2⟩
/-- d[k] = .. -/
def wgSubD (i : Nat) (p : WE) : WG := fun d Γ Q => slotM Γ i fun mk es => p Γ fun x => keyW x fun k => es.length < sizeLine ∧ Q (Γ.set i (some (mk (putE es k d))))
theorem qg_subD (i : Nat) (hu : X.A.units + 64 < cLine) {k : Expr} (hk : QE X k p) (hN : X.N[i]? = some x := by rfl) (hv : Vis X.env.scope x := by first | exact Or.inl rfl | exact Or.inr (Or.inl rfl) | exact Or.inr (Or.inr rfl)) (hd : (x == ("__debug__" : Str)) = false := by decide) (hcd : (x == ("__classdict__" : Str)) = false := by decide)
    (ha : ∀ v, assign (.Subscript (.Name x xp) k pos) X.env v = (do
      let ov ← holding [v] (eval (.Name x xp) X.env)
      let iv ← holding [v, ov] (eval k X.env)
      standAt pos
      holding [v, ov, iv] (setItem ov iv v)
      release [v, ov, iv] []) := by intro _; rfl) : QG X (.Subscript (.Name x xp) k pos) (wgSubD i p) := let ⟨_, a1, a2⟩ := hk.ex; ⟨_, pg_sub (pe_var hN hv hd hcd) a1 (set_dN hu rfl rfl) ha, fun C σ H ex Γ v d e1 e2 R hd Q' hp Q k => by
  obtain ⟨mk, es, g, hm, hp⟩ := slotM_of hp
  obtain ⟨a, ks0, sv, _⟩ := R.own g hm
  refine ⟨_, sv, a2 C σ H ex Γ e1 e2 R _ hp _ fun y dy H1 R1 g1 d1 q1 => ?_⟩
  obtain ⟨k0, rfl, kd, kt, hl, q1⟩ := q1
  obtain ⟨a', ks, sv', h2, h3, h4, h4', h5, hA⟩ := R1.own g hm
  rw [sv] at sv'
  cases sv'
  obtain ⟨b, rfl, kb, kb'⟩ := key_at (mask_le H1 ex) d1 kt kd
  have hd1 := dp_mono (g1.mask R) hd
  have put := R1.putX (x' := mk (putE es k0 d)) (o := DicN C.w a (putN ks k0 b v)) g (hm.mut es) sv h2 h3 h4' (nt_dic _ _ _) fun em => hA _ _ _ upd_same (by rw [em]; exact ent_put h5 kb' hd1)
  refine ⟨a, b, ks, k0, rfl, rfl, e2 ▸ h4, e1 ▸ ent_keys (mask_le H1 ex) h5, e1 ▸ kb, by rw [ent_len h5]; exact hl, ?_⟩
  rw [← e2]
  exact k _ _ ex _ put.1 (by rw [put.2]; exact g1.mask R) q1⟩
/-- x = {} -/
abbrev wSetD (i : Nat) : WS := fun E Γ => E.nx (Γ.set i (some (.dct false [])))
theorem Rel.newD {C : Ctx} {σ : L2.St} {H : Hp} {ex : List Addr} {Γ : VEnv} (R : Rel C σ H ex Γ) {i : Nat} {p : Addr} (np : H p = none) : Rel C (σ.set i (some (.ref p))) (upd H p (DicN C.w p [])) (p :: ex) (Γ.set i (some (.dct false []))) :=
  R.setNewG (R.new np _) (.of (same_new np _)) np ⟨_, upd_same, nt_dic _ _ _⟩ ⟨p, [], rfl, List.mem_cons_self, fun z => R.fresh np (R.exs p (C.dkE p z)), by rw [if_neg Bool.false_ne_true]; exact ⟨upd_same, .inl (R.mine np)⟩, .nil⟩
theorem qs_setD (i : Nat) {dpos : Pos} (hN : X.N.Nodup) (hi : X.N[i]? = some x) (hx : Loc X.env.scope x) (hs : swapsWith (.Dict [] [] dpos) (some (.Name x xp)) pos.line X.env = pure false := by rfl) (hf : X.fn x = true ∨ X.env.scope.names.lookup x = some .local := by first | exact .inl rfl | exact .inr rfl | assumption) :
    QS X (.Assign [.Name x xp] (.Dict [] [] dpos) pos) (wSetD i) := ⟨_, ps_set hN hi hx (pe_dnewN rfl) hs hf, fun C σ H ex Γ e1 e2 R E' hp E s => by
  intro p np
  rw [← e2]
  exact s.nx _ _ _ _ (R.newD np) (mask_ext R (.of (same_new np _)) np) hp⟩
abbrev wConsD (r : WAO) : WAO := fun Γ Q => r Γ fun as => Q (.dct false [] :: as)
theorem qao_d {dpos : Pos} (hr : QAO X es po) (hs : starEach (.Dict [] [] dpos :: es) X.env = (false, eval (.Dict [] [] dpos) X.env) :: starEach es X.env := by rfl) : QAO X (.Dict [] [] dpos :: es) (wConsD po) :=
  let ⟨_, r1, r2⟩ := hr.ex; ⟨_, pa_cons (pe_dnewN rfl) r1 hs, fun C σ τ H ex Γ Δ e1 e2 R l Q' hp Q k => by
    intro a na
    rw [← e2]
    have P := R.dummy.newD (i := (σ ++ τ).length) na
    rw [set_end] at P
    rw [← R.len, set_end, List.append_assoc, List.append_assoc] at P
    refine r2 C σ _ _ _ Γ _ e1 e2 P l _ hp _ fun vs as H2 ex2 R2 l2 m q2 => ?_
    refine k _ _ H2 ex2 ?_ (by simp [l2]) ((mask_ext R (.of (same_new na _)) na).trans m) q2
    rw [List.append_assoc, List.append_assoc] at R2
    exact R2⟩
/-! walked in a comprehension -/
mutual
theorem noL_key : ∀ k : NK, noL k.data = true
  | .none => by simp [PySem.NestedKey.data, noL]
  | .num i => by simp [PySem.NestedKey.data, noL]
  | .text x => by simp [PySem.NestedKey.data, noL]
  | .tup ks => by
    have := noL_keys ks
    simp [PySem.NestedKey.data, noL, this]
theorem noL_keys : ∀ ks : List NK, noLs (PySem.NestedKey.datas ks) = true
  | [] => by simp [PySem.NestedKey.datas, noLs]
  | k :: ks => by
    have h1 := noL_key k
    have h2 := noL_keys ks
    simp [PySem.NestedKey.datas, noLs, h1, h2]
end
theorem pair_at {α β : Type} {F : α → β → Prop} : ∀ {l : List α} {m : List β}, Paired F l m → ∀ {i : Nat} {a : α}, l[i]? = some a → ∃ b, m[i]? = some b ∧ F a b
  | _, _, .nil, i, b, e => by simp at e
  | _, _, .cons r t, 0, b, e => by
    simp only [List.getElem?_cons_zero, Option.some.injEq] at e
    subst e
    exact ⟨_, rfl, r⟩
  | _, _, .cons r t, i + 1, b, e => by
    simp only [List.getElem?_cons_succ] at e
    obtain ⟨a, h1, h2⟩ := pair_at t e
    exact ⟨a, by simpa using h1, h2⟩
theorem itok_keys {C : Ctx} {ex : List Addr} {H : Hp} {d : Addr} {o : Obj} {ks : Ents} {es : List (NK × PyData)} (hd : H d = some (.frz o (DicN C.w d ks))) (hk : d ∉ C.dk ∧ (Mine C d ∨ d ∈ C.M)) (h : Paired (EntAt C.K (Mask H ex)) ks es) : ItOk C (Itkn C.w d o ks) ex H true (es.map (·.1.data)) := fun σ2 H2 ex2 Γ2 R2 s g i => by
  have h2 : H2 d = some (.frz o (DicN C.w d ks)) := g rfl d _ hk.1 hk.2 hd
  have l := ent_len h
  rw [List.length_map]
  refine ⟨fun hi => ⟨⟨h2, by omega⟩, fun x H3 y => ?_⟩, fun hi => ⟨h2, by omega⟩⟩
  obtain ⟨rfl, p, hp, rfl⟩ := y
  obtain ⟨q, hq, r⟩ := pair_at h hp
  refine ⟨Same.refl _, q.1.data, by rw [List.getElem?_map, hq]; rfl, ?_⟩
  rw [← r.1]
  exact R2.free (noL_key _) (dpp_mono (s.trans (mask_le _ _)) r.2.1.dp)
theorem itok_items {C : Ctx} {ex : List Addr} {H : Hp} {d : Addr} {o : Obj} {ks : Ents} {es : List (NK × PyData)} (hd : H d = some (.frz o (DicN C.w d ks))) (hk : d ∉ C.dk ∧ (Mine C d ∨ d ∈ C.M)) (h : Paired (EntAt C.K (Mask H ex)) ks es) : ItOk C (Itin C.w d o ks) ex H true (es.map fun p => pairD p.1.data p.2) := itok_pairs fun σ2 H2 ex2 Γ2 R2 s g i => by
  have h2 : H2 d = some (.frz o (DicN C.w d ks)) := g rfl d _ hk.1 hk.2 hd
  have l := ent_len h
  rw [List.length_map]
  refine ⟨fun hi => ⟨⟨h2, by omega⟩, fun x H3 y => ?_⟩, fun hi => ⟨h2, by omega⟩⟩
  obtain ⟨T, p, hp, rfl, nT, rfl⟩ := y
  obtain ⟨q, hq, r⟩ := pair_at h hp
  refine ⟨T, _, _, q.1.data, q.2, rfl, nT, rfl, by rw [List.getElem?_map, hq]; rfl, ?_, dp_mono s r.2.2⟩
  rw [← r.1]
  exact R2.free (noL_key _) (dpp_mono (s.trans (mask_le _ _)) r.2.1.dp)
/-- the slot's dict, locked -/
def slotK (Γ : VEnv) (i : Nat) (Q : List (NK × PyData) → Prop) : Prop := match Γ[i]? with | some (some (.dlk es)) => Q es | _ => False
theorem slotK_of {Γ : VEnv} {i : Nat} {Q : List (NK × PyData) → Prop} (h : slotK Γ i Q) : ∃ es, Γ[i]? = some (some (.dlk es)) ∧ Q es := by
  unfold slotK at h
  split at h
  · rename_i es e; exact ⟨es, e, h⟩
  · exact h.elim
abbrev wKeys (i : Nat) : WA := fun Γ Q => slotK Γ i fun es => Q (es.map (·.1.data))
abbrev wItems (i : Nat) : WA := fun Γ Q => slotK Γ i fun es => Q (es.map fun p => pairD p.1.data p.2)
theorem qi_keys (i : Nat) {tg : Expr} (hN : X.N[i]? = some x := by rfl) (hv : Vis X.env.scope x := by first | exact Or.inl rfl | exact Or.inr (Or.inl rfl) | exact Or.inr (Or.inr rfl)) (hd : (x == ("__debug__" : Str)) = false := by decide) (hcd : (x == ("__classdict__" : Str)) = false := by decide) : QI X true tg (.Name x xp) (wKeys i) := ⟨_, pi_keysN (pe_var hN hv hd hcd) rfl, fun C σ H ex Γ e1 e2 R Q' hp R' k => by
  obtain ⟨es, g, hp⟩ := slotK_of hp
  obtain ⟨v, sv, a, ks, o, rfl, h2, h3, h4, h5⟩ := R.slot i _ g
  refine ⟨_, sv, a, o, ks, rfl, e2 ▸ h4, ?_⟩
  rw [← e2]
  exact k _ _ H R (.refl H) (itok_keys h4 h3 h5) hp⟩
theorem qi_items (i : Nat) {elts : List Expr} {kk : Nat} {tpos : Pos} (hN : X.N[i]? = some x := by rfl) (hv : Vis X.env.scope x := by first | exact Or.inl rfl | exact Or.inr (Or.inl rfl) | exact Or.inr (Or.inr rfl)) (hd : (x == ("__debug__" : Str)) = false := by decide) (hcd : (x == ("__classdict__" : Str)) = false := by decide) (hbase : attributeBase (.Name x xp) "items" X.env (eval (.Name x xp) X.env) = eval (.Name x xp) X.env := by rfl) (hline : (apos.endLine == cpos.line) = true := by rfl) :
    QI X true (.Tuple elts kk tpos) (.Call (.Attribute (.Name x xp) "items" apos) [] [] cpos) (wItems i) := ⟨_, pi_itemsN (pe_var hN hv hd hcd) rfl hbase hline, fun C σ H ex Γ e1 e2 R Q' hp R' k => by
  obtain ⟨es, g, hp⟩ := slotK_of hp
  obtain ⟨v, sv, a, ks, o, rfl, h2, h3, h4, h5⟩ := R.slot i _ g
  refine ⟨_, sv, a, o, ks, rfl, e2 ▸ h4, ?_⟩
  rw [← e2]
  exact k _ _ H R (.refl H) (itok_items h4 h3 h5) hp⟩
/-- e while the dict of the slot i is walked -/
abbrev wLockN (i : Nat) (p : WA) : WA := fun Γ Q => slotU Γ i fun es => p (Γ.set i (some (.dlk es))) Q
theorem mask_upd {H : Hp} {ex : List Addr} {a : Addr} {o : HO} (h : a ∈ ex) : Mask (upd H a o) ex = Mask H ex := by
  funext b
  by_cases c : b ∈ ex
  · rw [mask_in c, mask_in c]
  · rw [mask_out c, mask_out c, upd_ne (fun (z : b = a) => c (z ▸ h))]
theorem q_lockN (i : Nat) (h : QN X e pa) : QN X e (wLockN i pa) := let ⟨_, a1, a2⟩ := h.ex; ⟨_, pe_lock a1, fun C σ H ex Γ e1 e2 R Q' hp Q k => by
  obtain ⟨es, g, hp⟩ := slotU_of hp
  obtain ⟨v, sv, a, ks, rfl, h2, h3, h4, h5⟩ := R.slot i _ g
  rw [if_neg Bool.false_ne_true] at h4
  refine ⟨a, _, h4.1, True.intro, fun od => ?_⟩
  have nt : NT (.frz od (DicN C.w a ks)) := ⟨fun _ q => (by cases q), fun _ _ q => (by cases q)⟩
  have put := R.putX (x' := .dlk es) (o := .frz od (DicN C.w a ks)) g rfl sv h2 h3 h4.2 nt fun em => ⟨a, ks, od, rfl, h2, ⟨h3, h4.2⟩, upd_same, by rw [em]; exact h5⟩
  refine a2 C σ _ ex _ e1 e2 put.1 _ hp _ fun l xs ds H' R' g' nl el hd q => ?_
  have fa : H' a = some (.frz od (DicN C.w a ks)) := g' a _ h3 upd_same
  have la : l ≠ a := fun z => by rw [z, upd_same] at nl; cases nl
  have nl0 : H l = none := by rw [upd_ne la] at nl; exact nl
  refine ⟨fa, ?_⟩
  have gr : Grow C H (upd H' a (DicN C.w a ks)) := fun b o nb eb => by
    by_cases c : b = a
    · subst c
      rw [upd_same, ← h4.1]
      exact eb
    · rw [upd_ne c]
      exact g' b o nb (by rw [upd_ne c]; exact eb)
  have dk : C.dok (upd H' a (DicN C.w a ks)) := C.stab H' _ (fun b hb o eb => by rw [upd_ne (fun (z : b = a) => h3 (z ▸ hb))]; exact eb) R'.deck
  refine k l xs ds _ (R.grow gr dk fun b hb => ?_) gr nl0 (by rw [upd_ne la]; exact el) ?_ q
  · obtain ⟨o, eo, n⟩ := R'.all b (R'.exs b (C.dkE b hb))
    exact ⟨o, by rw [upd_ne (fun (z : b = a) => h3 (z ▸ hb))]; exact eo, n⟩
  · rw [mask_upd (List.mem_cons_of_mem _ h2)]
    exact hd⟩
end
end PV
namespace PV
open PySem PySem.Spec PyProof.Rows L2 RZ StX SrtO Kw KL
/-! ### comprehensions with two fors -/
section
variable {X : Cx} {tg iter tg1 iter1 elt : Expr} {pos : Pos} {te : WE} {it it1 : WA} {g g1 : WG} {tt tt1 : WT} {K : PySem.W.Frag} {w : World}
def upI (K : PySem.W.Frag) (w : World) (p : WA) : TI := fun σ H R => ∃ (C : Ctx) (ex : List Addr) (Γ : VEnv) (Q' : List PyData → Prop), C.K = K ∧ C.w = w ∧ Rel C σ H ex Γ ∧ p Γ Q' ∧ ∀ J ds H', Rel C σ H' ex Γ → Grow C H H' → ItOk C J ex H' true ds → Q' ds → R J H'
theorem QI.up (h : QI X true tg iter it) : PI X tg iter (upI X.K X.w it) := by
  obtain ⟨t, h1, h2⟩ := h.ex
  refine ⟨fun pins s σ H R I hw => h1.run pins s σ H R I ?_⟩
  obtain ⟨C, ex, Γ, Q', e1, e2, R', hp, k⟩ := hw
  exact h2 C σ H ex Γ e1 e2 R' Q' hp R k
def CompP2 (g : WG) (tt : WT) (it1 : WA) (g1 : WG) (tt1 : WT) (te : WE) (vs1 : List Nat) (Γ : VEnv) (xs : List PyData) (Q : List PyData → Prop) : Prop := ∃ P : Nat → List PyData → Prop, P 0 [] ∧
  (∀ (i : Nat) (x : PyData) (acc : List PyData), xs[i]? = some x → P i acc → g x Γ fun Γ1 => tt Γ1 fun b => if b = true then it1 Γ1 fun ys => ∃ P1 : Nat → List PyData → Prop, P1 0 acc ∧
    (∀ (j : Nat) (y : PyData) (acc : List PyData), ys[j]? = some y → P1 j acc → g1 y (wipeE Γ1 vs1) fun Γ2 => tt1 Γ2 fun b => if b = true then te Γ2 fun z => acc.length < 100000 ∧ P1 (j + 1) (acc ++ [z]) else P1 (j + 1) acc) ∧
    ∀ acc, P1 ys.length acc → P (i + 1) acc else P (i + 1) acc) ∧ ∀ acc, P xs.length acc → Q acc
def wLc2 (it : WA) (g : WG) (tt : WT) (it1 : WA) (g1 : WG) (tt1 : WT) (te : WE) (vs vs1 : List Nat) : WA := fun Γ Q => it Γ fun xs => CompP2 g tt it1 g1 tt1 te vs1 (wipeE Γ vs) xs Q
theorem wipe_comm (σ : L2.St) (us vs : List Nat) (h : ∀ i ∈ us, i ∈ vs) : wipe (wipe σ us) vs = wipe σ vs := by
  induction us generalizing σ with
  | nil => rfl
  | cons u us ih =>
    show wipe ((wipe σ us).set u none) vs = _
    rw [wipe_set (h u List.mem_cons_self)]
    exact ih σ fun i hi => h i (List.mem_cons_of_mem _ hi)
/-- a new place is the caller's from now on -/
def Ctx.plus (C : Ctx) (D : Addr) : Ctx := { C with ex0 := D :: C.ex0, dkE := fun a h => List.mem_cons_of_mem _ (C.dkE a h), ME := fun a h => List.mem_cons_of_mem _ (C.ME a h) }
theorem Rel.plus {C : Ctx} {σ : L2.St} {H : Hp} {ex : List Addr} {Γ : VEnv} {D : Addr} {acc : List PyData} (R : Rel C (σ ++ [some (.ref D)]) H ex (Γ ++ [some (.lst acc)])) (l : Γ.length = σ.length) (hD : D ∈ ex) : Rel (C.plus D) σ H ex Γ := by
  have Rb := R.less l
  have lσ : (Γ ++ [some (AV.lst acc)])[σ.length]? = some (some (.lst acc)) := by rw [← l, List.getElem?_append_right (Nat.le_refl _), Nat.sub_self]; rfl
  have sσ : (σ ++ [some (V.ref D)])[σ.length]? = some (some (.ref D)) := by rw [List.getElem?_append_right (Nat.le_refl _), Nat.sub_self]; rfl
  refine ⟨Rb.len, fun i x e => ?_, Rb.apart, fun a ha => ?_, Rb.all, Rb.keep, Rb.deck⟩
  · obtain ⟨v, sv, hv⟩ := Rb.slot i x e
    have hi : i < σ.length := (List.getElem?_eq_some_iff.mp sv).1
    have ne : ∀ a, v = .ref a → x.obj → a ≠ D := fun a ea ho z => by
      subst ea z
      refine R.apart σ.length i _ x _ (by omega) lσ ?_ trivial ho sσ ?_
      · rw [List.getElem?_append_left (by omega)]; exact e
      · rw [List.getElem?_append_left hi]; exact sv
    have mine : ∀ a, v = .ref a → x.obj → Mine C a → Mine (C.plus D) a := fun a ea ho m => ⟨fun z => by
      rcases List.mem_cons.mp z with z | z
      · exact ne a ea ho z
      · exact m.1 z, m.2⟩
    refine ⟨v, sv, ?_⟩
    cases x with
    | val d => exact hv
    | lst ds =>
      obtain ⟨a, xs, h1, h2, h3, h4⟩ := hv
      exact ⟨a, xs, h1, h2, mine a h1 trivial h3, h4⟩
    | dct lk es =>
      obtain ⟨a, ks, h1, h2, h3, h4, h5⟩ := hv
      refine ⟨a, ks, h1, h2, h3, ?_, h5⟩
      cases lk with
      | true => exact h4
      | false =>
        rw [if_neg Bool.false_ne_true] at h4 ⊢
        exact ⟨h4.1, h4.2.elim (fun m => .inl (mine a h1 trivial m)) .inr⟩
    | dlk es =>
      obtain ⟨a, ks, o, h1, h2, h3, h4⟩ := hv
      exact ⟨a, ks, o, h1, h2, ⟨h3.1, h3.2.elim (fun m => .inl (mine a h1 trivial m)) .inr⟩, h4⟩
    | pdt a es => exact hv
    | deck => exact hv
    | raw u => exact hv
  · rcases List.mem_cons.mp ha with rfl | ha
    · exact hD
    · exact Rb.exs a ha
/-- the caller's new list changed -/
theorem Rel.step {C : Ctx} {σ : L2.St} {H : Hp} {ex : List Addr} {Γ : VEnv} {D : Addr} {xs0 xs : List V} (R : Rel C σ H ex Γ) (h0 : D ∈ C.ex0) (hk : D ∉ C.dk) (hM : D ∉ C.M) (hn : C.H0 D = none) (e : H D = some (.lst xs0)) : Rel C σ (upd H D (.lst xs)) ex Γ := by
  have em : Mask (upd H D (.lst xs)) ex = Mask H ex := mask_upd (R.exs D h0)
  refine ⟨R.len, fun i x e' => ?_, R.apart, R.exs, fun b hb => ?_, fun b o nb eb => ?_, ?_⟩
  · obtain ⟨v, sv, hv⟩ := R.slot i x e'
    refine ⟨v, sv, ?_⟩
    cases x with
    | val d =>
      show Dd C.K (Mask (upd H D (.lst xs)) ex) v d
      rw [em]; exact hv
    | lst ds =>
      obtain ⟨a, ys, h1, h2, h3, h4, h5⟩ := hv
      exact ⟨a, ys, h1, h2, h3, by rw [upd_ne (fun (z : a = D) => h3.1 (z ▸ h0))]; exact h4, by rw [em]; exact h5⟩
    | dct lk es =>
      obtain ⟨a, ks, h1, h2, h3, h4, h5⟩ := hv
      have ne : a ≠ D := fun z => by
        subst z
        cases lk with
        | true =>
          rw [if_pos rfl] at h4
          rcases h4 with h4 | ⟨o, h4⟩ <;> (rw [e] at h4; cases h4)
        | false =>
          rw [if_neg Bool.false_ne_true, e] at h4
          cases h4.1
      refine ⟨a, ks, h1, h2, h3, ?_, by rw [em]; exact h5⟩
      unfold Rd at h4 ⊢
      rw [upd_ne ne]
      exact h4
    | dlk es =>
      obtain ⟨a, ks, o, h1, h2, h3, h4, h5⟩ := hv
      have ne : a ≠ D := fun z => by rw [z, e] at h4; cases h4
      exact ⟨a, ks, o, h1, h2, h3, by rw [upd_ne ne]; exact h4, by rw [em]; exact h5⟩
    | pdt a es =>
      obtain ⟨ks, h1, h2, h3, h4, h5⟩ := hv
      have ne : a ≠ D := fun z => by
        rw [z, e] at h4
        cases h4.1
      exact ⟨ks, h1, h2, h3, by rw [upd_ne ne]; exact h4, by rw [em]; exact h5⟩
    | deck => exact hv
    | raw u => exact hv
  · by_cases c : b = D
    · subst c
      exact ⟨_, upd_same, nt_lst xs⟩
    · rw [upd_ne c]
      exact R.all b hb
  · by_cases c : b = D
    · rw [c, hn] at eb; cases eb
    · rw [upd_ne c]
      exact R.keep b o nb eb
  · refine C.stab H _ (fun b hb o eb => ?_) R.deck
    rw [upd_ne (fun (z : b = D) => hk (z ▸ hb))]
    exact eb
theorem ln_lc2 {ti : TI} {t t1 : TG} {vs vs1 : List Nat} (hi : LI K w true ti it) (hg : LGn K vs t g) (hg1 : LGn K vs1 t1 g1) :
    LN K w (tLc2 ti t (upT K w tt) (upI K w it1) t1 (upT K w tt1) (upE K w te) vs vs1) (wLc2 it g tt it1 g1 tt1 te vs vs1) := fun C σ H ex Γ e1 e2 R Q' hp Q k =>
  hi C σ H ex Γ e1 e2 R _ hp _ fun J ds H1 R1 gg1 ok q D nD => by
    obtain ⟨P, p0, turn, fin⟩ := q
    have nD0 := gg1.none R1 nD
    have start : Rel C (σ ++ [some (.ref D)]) (upd H1 D (.lst [])) (D :: ex) (Γ ++ [some (.lst [])]) := R1.pushNew (R1.new nD _) (.of (same_new nD _)) nD upd_same .nil
    have Dk : D ∉ C.dk := fun z => R1.fresh nD (R1.exs D (C.dkE D z))
    have DM : D ∉ C.M := fun z => R1.fresh nD (R1.exs D (C.ME D z))
    have D0 : C.H0 D = none := (R1.mine nD).2
    have Din : D ∈ D :: ex := List.mem_cons_self
    have lσ : ∀ acc, (Γ ++ [some (AV.lst acc)])[σ.length]? = some (some (.lst acc)) := fun acc => by rw [← R.len, List.getElem?_append_right (Nat.le_refl _), Nat.sub_self]; rfl
    have sσ : (σ ++ [some (V.ref D)])[σ.length]? = some (some (.ref D)) := by rw [List.getElem?_append_right (Nat.le_refl _), Nat.sub_self]; rfl
    have eS : ∀ acc acc', (Γ ++ [some (AV.lst acc)]).set σ.length (some (.lst acc')) = Γ ++ [some (.lst acc')] := fun acc acc' => by rw [← R.len, set_end]
    refine ⟨fun i m H2 => m = ds.length - i ∧ i ≤ ds.length ∧ ∃ xs acc, H2 D = some (.lst xs) ∧ DdAll C.K (Mask H2 (D :: ex)) xs acc ∧ Rel C (σ ++ [some (.ref D)]) H2 (D :: ex) (Γ ++ [some (.lst acc)]) ∧ Grow C H1 H2 ∧ P i acc,
      ⟨ds.length, rfl, Nat.zero_le _, [], [], upd_same, .nil, start, .of (same_new nD _), p0⟩, ?_⟩
    rintro i m H2 ⟨rfl, hi, xs, acc, hD, hA, RX, gr, pi⟩
    have Rb := RX.less R.len
    have m2 : Same (Mask H1 ex) (Mask H2 (D :: ex)) := mask_ext R1 gr nD
    obtain ⟨o1, o2⟩ := ok σ H2 (D :: ex) Γ Rb m2 (fun _ => gr.m) i
    rcases Nat.lt_or_ge i ds.length with l | l
    · let Nx : Hp → Prop := fun H' => ∃ xs acc, H' D = some (.lst xs) ∧ DdAll C.K (Mask H' (D :: ex)) xs acc ∧ Rel C (σ ++ [some (.ref D)]) H' (D :: ex) (Γ ++ [some (.lst acc)]) ∧ Grow C H1 H' ∧ P (i + 1) acc
      refine .inr ⟨(o1 l).1, Nx, fun H' h => ⟨ds.length - (i + 1), by omega, rfl, l, h⟩, fun x H3 y => ?_⟩
      obtain ⟨s3, d, ed, hd⟩ := (o1 l).2 x H3 y
      have RX3 := RX.same s3
      have Rp := (RX3.plus R.len Din).wipe vs
      refine hg (C.plus D) _ H3 (D :: ex) _ x d e1 Rp hd _ (turn i d acc ed pi) _ fun σ4 Γ4 R4 e4 q4 => ⟨e4.trans (wipe_idem σ vs), ?_⟩
      refine lt_up (C.plus D) σ4 H3 _ Γ4 e1 e2 R4 _ q4 _ fun b H5 R5 g5 q5 => ?_
      have g5 : Grow C H3 H5 := g5
      have g25 : Grow C H2 H5 := Grow.trans (.of s3) g5
      have RX5 : Rel C (σ ++ [some (.ref D)]) H5 (D :: ex) (Γ ++ [some (.lst acc)]) := RX.grow g25 R5.deck fun a ha => R5.all a (R5.exs a (List.mem_cons_of_mem _ (C.dkE a ha)))
      cases b with
      | false => exact ⟨xs, acc, g25 D _ Dk hD, dpa_mono (g25.mask RX) hA, RX5, gr.trans g25, q5⟩
      | true =>
        refine ⟨C.plus D, D :: ex, Γ4, _, e1, e2, R5, q5, fun J1 ys H6 R6 g6 ok1 q6 => ?_⟩
        have g6 : Grow C H5 H6 := g6
        obtain ⟨P1, p10, turn1, fin1⟩ := q6
        have g26 : Grow C H2 H6 := g25.trans g6
        have RX6 : Rel C (σ ++ [some (.ref D)]) H6 (D :: ex) (Γ ++ [some (.lst acc)]) := RX.grow g26 R6.deck fun a ha => R6.all a (R6.exs a (List.mem_cons_of_mem _ (C.dkE a ha)))
        refine ⟨fun j k H7 => k = ys.length - j ∧ j ≤ ys.length ∧ ∃ xs acc, H7 D = some (.lst xs) ∧ DdAll C.K (Mask H7 (D :: ex)) xs acc ∧ Rel C (σ ++ [some (.ref D)]) H7 (D :: ex) (Γ ++ [some (.lst acc)]) ∧ Grow C H1 H7 ∧ Rel (C.plus D) σ4 H7 (D :: ex) Γ4 ∧ (∀ a o, a ∉ C.dk → a ≠ D → H6 a = some o → H7 a = some o) ∧ P1 j acc,
          ⟨ys.length, rfl, Nat.zero_le _, xs, acc, g26 D _ Dk hD, dpa_mono (g26.mask RX) hA, RX6, gr.trans g26, R6, fun _ _ _ _ e => e, p10⟩, ?_⟩
        rintro j kk H7 ⟨rfl, hj, xs7, acc7, hD7, hA7, RX7, gr7, R7, gd7, pj⟩
        have m7 : Same (Mask H6 (D :: ex)) (Mask H7 (D :: ex)) := mask_same fun a o na e => ⟨na, gd7 a o (fun z => na (R6.exs a (List.mem_cons_of_mem _ (C.dkE a z)))) (fun z => na (z ▸ List.mem_cons_self)) e⟩
        obtain ⟨u1, u2⟩ := ok1 σ4 H7 (D :: ex) Γ4 R7 m7 (fun _ a o nk ho e => gd7 a o nk (fun z => by
          subst z
          rcases ho with ho | ho
          · exact ho.1 List.mem_cons_self
          · exact DM ho) e) j
        rcases Nat.lt_or_ge j ys.length with lj | lj
        · let Nx1 : Hp → Prop := fun H' => ∃ xs acc, H' D = some (.lst xs) ∧ DdAll C.K (Mask H' (D :: ex)) xs acc ∧ Rel C (σ ++ [some (.ref D)]) H' (D :: ex) (Γ ++ [some (.lst acc)]) ∧ Grow C H1 H' ∧ Rel (C.plus D) σ4 H' (D :: ex) Γ4 ∧ (∀ a o, a ∉ C.dk → a ≠ D → H6 a = some o → H' a = some o) ∧ P1 (j + 1) acc
          refine .inr ⟨(u1 lj).1, Nx1, fun H' h => ⟨ys.length - (j + 1), by omega, rfl, lj, h⟩, fun x1 H8 y1 => ?_⟩
          obtain ⟨s8, d1, ed1, hd1⟩ := (u1 lj).2 x1 H8 y1
          have R8 := (R7.same s8).wipe vs1
          refine hg1 (C.plus D) _ H8 (D :: ex) _ x1 d1 e1 R8 hd1 _ (turn1 j d1 acc7 ed1 pj) _ fun σ9 Γ9 R9 e9 q9 => ⟨e9.trans (wipe_idem σ4 vs1), ?_⟩
          refine lt_up (C.plus D) σ9 H8 _ Γ9 e1 e2 R9 _ q9 _ fun b H10 R10 g10 q10 => ?_
          have g10 : Grow C H7 H10 := Grow.trans (.of s8) (show Grow C H8 H10 from g10)
          have dkA : ∀ {H' : Hp} {σ' : L2.St} {Γ' : VEnv}, Rel (C.plus D) σ' H' (D :: ex) Γ' → ∀ a ∈ C.dk, ∃ o, H' a = some o ∧ NT o := fun R' a ha => R'.all a (R'.exs a (List.mem_cons_of_mem _ (C.dkE a ha)))
          cases b with
          | false => exact ⟨xs7, acc7, g10 D _ Dk hD7, dpa_mono (g10.mask RX7) hA7, RX7.grow g10 R10.deck (dkA R10), gr7.trans g10, R7.grow g10 R10.deck (dkA R10), fun a o n1 n2 e => g10 a o n1 (gd7 a o n1 n2 e), q10⟩
          | true =>
            refine le_up (C.plus D) σ9 H10 _ Γ9 e1 e2 R10 _ q10 _ fun z dz H11 R11 g11 dz11 q11 => ?_
            have gg : Grow C H7 H11 := g10.trans (show Grow C H10 H11 from g11)
            have RX11 := RX7.grow gg R11.deck (dkA R11)
            have R711 := R7.grow (C := C.plus D) gg R11.deck (dkA R11)
            have hD11 := gg D _ Dk hD7
            have hA11 := dpa_mono (gg.mask RX7) hA7
            have put := RX11.put (xs := xs7 ++ [z]) (lσ acc7) sσ (dpa_append hA11 (.cons dz11 .nil))
            rw [eS] at put
            refine ⟨xs7, hD11, by rw [dpa_len hA7]; exact Nat.lt_of_lt_of_le q11.1 (by decide), xs7 ++ [z], acc7 ++ [dz], upd_same, ?_, put.1, fun b o nb eb => ?_, Rel.step (C := C.plus D) R711 List.mem_cons_self Dk DM D0 hD11, fun a o n1 n2 e => ?_, q11.2⟩
            · rw [put.2]
              exact dpa_append hA11 (.cons dz11 .nil)
            · have ne : b ≠ D := fun z => by rw [z, nD] at eb; cases eb
              rw [upd_ne ne]
              exact (gr7.trans gg) b o nb eb
            · rw [upd_ne n2]
              exact gg a o n1 (gd7 a o n1 n2 e)
        · have e : j = ys.length := by omega
          exact .inl ⟨u2 e, xs7, acc7, hD7, hA7, RX7, gr7, fin1 acc7 (e ▸ pj)⟩
    · have e : i = ds.length := by omega
      refine .inl ⟨o2 e, ?_⟩
      have gH : Grow C H H2 := gg1.trans gr
      exact k D xs acc H2 (R.with Rb gH) gH nD0 hD hA (fin acc (e ▸ pi))
variable {ifs ifs1 : List Expr} {scope : Scope} {t t1 : TG}
theorem q_lc2 (own : List (Str × Nat)) (vs1 : List Nat) (hN : X.N.Nodup) (hi : QI X true tg iter it) (ok : BlkOk X.N X.env.scope scope own)
    (hg : ∀ (s : Shared) (H : Hp) (C : Addr) (cl : List (Str × Addr)) (fp : List Addr), QGn (X.blk s H scope (compEnvC scope cl C X.env) fp) X.K (own.map (·.2)) tg t g) (ht : ∀ (s : Shared) (H : Hp) (C : Addr) (cl : List (Str × Addr)) (fp : List Addr), QTs (X.blk s H scope (compEnvC scope cl C X.env) fp) ifs tt)
    (hi1 : ∀ (s : Shared) (H : Hp) (C : Addr) (cl : List (Str × Addr)) (fp : List Addr), QI (X.blk s H scope (compEnvC scope cl C X.env) fp) true tg1 iter1 it1)
    (hg1 : ∀ (s : Shared) (H : Hp) (C : Addr) (cl : List (Str × Addr)) (fp : List Addr), QGn (X.blk s H scope (compEnvC scope cl C X.env) fp) X.K vs1 tg1 t1 g1) (ht1 : ∀ (s : Shared) (H : Hp) (C : Addr) (cl : List (Str × Addr)) (fp : List Addr), QTs (X.blk s H scope (compEnvC scope cl C X.env) fp) ifs1 tt1)
    (he : ∀ (s : Shared) (H : Hp) (C : Addr) (cl : List (Str × Addr)) (fp : List Addr), QE (X.blk s H scope (compEnvC scope cl C X.env) fp) elt te) (hv : ∀ i ∈ vs1, i ∈ own.map (·.2) := by decide) (hc : X.calm = true := by rfl) (hs : ∀ x, foldedSetIterable iter X.env x = pure x := by intro _; rfl) (hs1 : ∀ env x, foldedSetIterable iter1 env x = pure x := by intro _ _; rfl) :
    QN X (.ListComp elt [⟨tg, iter, ifs, 0⟩, ⟨tg1, iter1, ifs1, 0⟩] scope pos) (wLc2 it g tt it1 g1 tt1 te (own.map (·.2)) vs1) := let ⟨_, a1, a2⟩ := hi.ex;
  have s0 : Shared := X.s_0
  ⟨_, pe_lc2 hc hN a1 ok hv (fun s H C cl fp => (hg s H C cl fp).pg) (fun s H C cl fp => (ht s H C cl fp).up) (fun s H C cl fp => (hi1 s H C cl fp).up) (fun s H C cl fp => (hg1 s H C cl fp).pg) (fun s H C cl fp => (ht1 s H C cl fp).up) (fun s H C cl fp => (he s H C cl fp).up) hs hs1, ln_lc2 a2 (hg s0 X.H_0 0 [] []).lg (hg1 s0 X.H_0 0 [] []).lg⟩
theorem qs_setLc2 (i : Nat) {y : Str} {py spos : Pos} (own : List (Str × Nat)) (vs1 : List Nat) (hN : X.N.Nodup) (hy : X.N[i]? = some y) (hyl : X.env.scope.names.lookup y = some .local)
    (hsw : swapsWith (.ListComp elt [⟨tg, iter, ifs, 0⟩, ⟨tg1, iter1, ifs1, 0⟩] scope pos) (some (.Name y py)) spos.line X.env = pure true) (hi : QI X true tg iter it) (ok : BlkOk X.N X.env.scope scope own)
    (hg : ∀ (s : Shared) (H : Hp) (C : Addr) (cl : List (Str × Addr)) (fp : List Addr), QGn (X.blk s H scope (compEnvC scope cl C X.env) fp) X.K (own.map (·.2)) tg t g) (ht : ∀ (s : Shared) (H : Hp) (C : Addr) (cl : List (Str × Addr)) (fp : List Addr), QTs (X.blk s H scope (compEnvC scope cl C X.env) fp) ifs tt)
    (hi1 : ∀ (s : Shared) (H : Hp) (C : Addr) (cl : List (Str × Addr)) (fp : List Addr), QI (X.blk s H scope (compEnvC scope cl C X.env) fp) true tg1 iter1 it1)
    (hg1 : ∀ (s : Shared) (H : Hp) (C : Addr) (cl : List (Str × Addr)) (fp : List Addr), QGn (X.blk s H scope (compEnvC scope cl C X.env) fp) X.K vs1 tg1 t1 g1) (ht1 : ∀ (s : Shared) (H : Hp) (C : Addr) (cl : List (Str × Addr)) (fp : List Addr), QTs (X.blk s H scope (compEnvC scope cl C X.env) fp) ifs1 tt1)
    (he : ∀ (s : Shared) (H : Hp) (C : Addr) (cl : List (Str × Addr)) (fp : List Addr), QE (X.blk s H scope (compEnvC scope cl C X.env) fp) elt te) (hv : ∀ i ∈ vs1, i ∈ own.map (·.2) := by decide) (hc : X.calm = true := by rfl) (hs : ∀ x, foldedSetIterable iter X.env x = pure x := by intro _; rfl) (hs1 : ∀ env x, foldedSetIterable iter1 env x = pure x := by intro _ _; rfl) :
    QS X (.Assign [.Name y py] (.ListComp elt [⟨tg, iter, ifs, 0⟩, ⟨tg1, iter1, ifs1, 0⟩] scope pos) spos) (wSetN i (wLc2 it g tt it1 g1 tt1 te (own.map (·.2)) vs1)) := let ⟨_, a1, a2⟩ := hi.ex;
  have s0 : Shared := X.s_0
  ⟨_, ps_setLc2 hc hN hy hyl hsw a1 ok hv (fun s H C cl fp => (hg s H C cl fp).pg) (fun s H C cl fp => (ht s H C cl fp).up) (fun s H C cl fp => (hi1 s H C cl fp).up) (fun s H C cl fp => (hg1 s H C cl fp).pg) (fun s H C cl fp => (ht1 s H C cl fp).up) (fun s H C cl fp => (he s H C cl fp).up) hs hs1,
    fun C σ H ex Γ e1 e2 R E' hp E s => ln_lc2 a2 (hg s0 X.H_0 0 [] []).lg (hg1 s0 X.H_0 0 [] []).lg C σ H ex Γ e1 e2 R _ hp _ fun a xs ds H' R' g n eq hd q => s.nx _ H' (a :: ex) _ (R.setNew R' g n eq hd) (mask_ext R g n) q⟩
end
/-- [f x y for x in xs for y in F x], without tests -/
theorem comp2_map {g g1 : WG} {it1 : WA} {te : WE} {vs1 : List Nat} {Γ : VEnv} {xs : List PyData} {Q : List PyData → Prop} (F : PyData → List PyData)
    (h : ∀ (i : Nat) (x : PyData), xs[i]? = some x → ∀ R : VEnv → List PyData → Prop, (∀ Γ1 ys f, F x = ys.map f → (∀ (j : Nat) (y : PyData), ys[j]? = some y → ∀ S : PyData → Prop, S (f y) → g1 y (wipeE Γ1 vs1) fun Γ2 => te Γ2 S) → R Γ1 ys) → g x Γ fun Γ1 => it1 Γ1 fun ys => R Γ1 ys)
    (hb : (xs.flatMap F).length ≤ 90000) (q : Q (xs.flatMap F)) : CompP2 g wYes it1 g1 wYes te vs1 Γ xs Q := by
  refine ⟨fun i acc => acc = (xs.take i).flatMap F, rfl, fun i x acc hx e => ?_, fun acc e => ?_⟩
  · refine h i x hx _ fun Γ1 ys f hF hy => ?_
    have hn : (xs.take (i + 1)).flatMap F = acc ++ F x := by
      rw [List.take_add_one, hx, e]
      simp
    have hle : (acc ++ F x).length ≤ 90000 := by
      rw [← hn]
      refine Nat.le_trans ?_ hb
      have : xs.flatMap F = (xs.take (i + 1)).flatMap F ++ (xs.drop (i + 1)).flatMap F := by rw [← List.flatMap_append, List.take_append_drop]
      rw [this, List.length_append]
      exact Nat.le_add_right _ _
    refine ⟨fun j a => a = acc ++ (ys.take j).map f, by simp, fun j y a hj ea => ?_, fun a ea => ?_⟩
    · refine hy j y hj _ ⟨?_, ?_⟩
      · rw [ea, List.length_append, List.length_map]
        rw [hF, List.length_append, List.length_map] at hle
        have : (ys.take j).length ≤ ys.length := by rw [List.length_take]; omega
        omega
      · dsimp only at ea ⊢
        rw [ea, List.take_add_one, hj]
        simp
    · show a = _
      rw [hn, hF]
      have ea : a = acc ++ (ys.take ys.length).map f := ea
      rw [List.take_length] at ea
      exact ea
  · have e : acc = (xs.take xs.length).flatMap F := e
    rw [List.take_length] at e
    rw [e]
    exact q
end PV
namespace PV
open PySem PySem.Spec PyProof.Rows L2 RZ StX SrtO Kw KL
/-! ### data compared by < -/
section
variable {X : Cx} {a b : Expr} {pos : Pos} {p q : WE} {K : PySem.W.Frag} {w : World}
def oLtD : OpW := fun d e Q => PySem.W.alike d e = true ∧ d ≠ .none ∧ d.depth ≤ 40 ∧ Q (.bool (PySem.W.dataLt d e))
theorem lo_ltD : LO K w (rLtD K) oLtD := fun D σ H ex Γ x y dx dy e1 e2 R hx hy Q' h Q k => by
  subst e1
  exact ⟨dx, dy, hx.full.dp, hy.full.dp, h.1, h.2.1, h.2.2.1, k _ _ H R (.refl H) (.bl _) h.2.2.2⟩
theorem q_ltD (hu : X.A.units + 64 < cLine) (ha : QB X a p) (hb : QB X b q) : QE X (.Compare a [.Lt] [b] pos) (w2 oLtD p q) := q_cmp (op_ltD hu) lo_ltD ha hb
theorem qt_ltD (hu : X.A.units + 64 < cLine) (ha : QB X a p) (hb : QB X b q) : QT X (.Compare a [.Lt] [b] pos) (wT (w2 oLtD p q)) := qt_cmp (op_ltD hu) lo_ltD ha hb
end
end PV
/-! plain mathematics of periods, stripes, heaps (taken out of the older blocks) -/
namespace KL
open PySem PySem.Spec PyProof.Rows L2 RZ StX SrtO Kw KM
def PRI : List Int := [2, 3, 5, 7, 11, 13, 17, 19, 23, 29]
def primesOf (n : Int) : List Int := PRI.filter fun p => decide (n.fmod p = 0)
theorem PR_pos : ∀ p ∈ PRI, (2 : Int) ≤ p ∧ p ≤ 29 := by decide
def gcdL (m : Int) (cs : List Int) : Int := cs.foldl (fun g c => ((Nat.gcd g.natAbs c.natAbs : Nat) : Int)) m
def prodP : List (Nat × Nat) → Nat
  | [] => 1
  | x :: r => x.1 * prodP r
abbrev intsN (l : List Nat) : List Int := l.map fun p : Nat => (p : Int)
theorem PR_PN : PRI = intsN PN := by decide
theorem fmod_dvd {m p : Nat} (hp : 2 ≤ p) : ((m : Int).fmod p = 0) ↔ p ∣ m := by
  rw [Int.fmod_eq_emod_of_nonneg _ (by omega)]
  constructor
  · intro h
    exact Nat.dvd_of_mod_eq_zero (by omega)
  · intro h
    have := Nat.mod_eq_zero_of_dvd h
    omega
theorem primesOf_mOf {pw : List (Nat × Nat)} (h : Pw pw) : primesOf (mOf pw : Nat) = intsN (pw.map (·.1)) := by
  rw [← primes_mOf h]
  unfold primesOf
  rw [PR_PN]
  unfold intsN
  rw [List.filter_map]
  congr 1
  refine List.filter_congr fun p hp => ?_
  have := PN_lt p hp
  show decide (((mOf pw : Nat) : Int).fmod (p : Int) = 0) = decide (p ∣ mOf pw)
  exact decide_eq_decide.mpr (fmod_dvd this.1)
theorem _root_.KM.Pw.drop {pw : List (Nat × Nat)} (h : Pw pw) : ∀ i, Pw (pw.drop i)
  | 0 => h
  | i + 1 => by
    have ih := KM.Pw.drop h i
    rw [show pw.drop (i + 1) = (pw.drop i).tail by simp]
    cases e : pw.drop i with
    | nil => rw [e] at ih; exact ih
    | cons x r => rw [e] at ih; exact ih.tail
theorem mOf_drop_dvd {pw : List (Nat × Nat)} : ∀ i, mOf (pw.drop i) ∣ mOf pw
  | 0 => Nat.dvd_refl _
  | i + 1 => by
    have ih := mOf_drop_dvd (pw := pw) i
    refine Nat.dvd_trans ?_ ih
    rw [show pw.drop (i + 1) = (pw.drop i).tail by simp]
    cases pw.drop i with
    | nil => exact Nat.dvd_refl _
    | cons x r => exact Nat.dvd_mul_left _ _
theorem prodP_append : ∀ (a : List (Nat × Nat)) (x : Nat × Nat), prodP (a ++ [x]) = prodP a * x.1
  | [], x => by simp [prodP]
  | y :: a, x => by
    show y.1 * prodP (a ++ [x]) = y.1 * prodP a * x.1
    rw [prodP_append a x, Nat.mul_assoc]
/-- a period as the program takes it -/
structure Per (pw : List (Nat × Nat)) : Prop where
  ok : Pw pw
  few : prodP pw ≤ 1000
  bd : mOf pw < 2 ^ 2000
theorem all_true : ∀ n, (List.replicate n true).all id = true
  | 0 => rfl
  | n + 1 => by rw [List.replicate_succ, List.all_cons, all_true n]; rfl
structure SOk (pw : List (Nat × Nat)) (cs : List Int) (r : Int) : Prop where
  per : Per pw
  l1 : 1 ≤ cs.length
  l3 : cs.length ≤ 3
  c0 : ∀ c ∈ cs, 0 ≤ c ∧ c < (mOf pw : Nat)
  r0 : 0 ≤ r ∧ r < (mOf pw : Nat)
  cop : gcdL (mOf pw : Nat) cs = 1
def dotI (cs xs : List Int) : Int := (List.zipWith (fun a b => a * b) cs xs).sum
theorem SOk.bd {pw : List (Nat × Nat)} {cs : List Int} {r : Int} (h : SOk pw cs r) : ∀ c ∈ cs, Bd 2000 c := fun c hc => by
  have := h.c0 c hc
  have := h.per.bd
  unfold Bd
  omega
abbrev qOf (x : Nat × Nat) : Nat := x.1 ^ x.2
/-- what is drawn of periods: below 10 ^ 40 -/
structure PerD (pw : List (Nat × Nat)) : Prop where
  ok : Pw pw
  few : prodP pw ≤ 1000
  lt : mOf pw < 10 ^ 40
theorem PerD.per {pw : List (Nat × Nat)} (h : PerD pw) : Per pw := ⟨h.ok, h.few, Nat.lt_trans h.lt (by decide)⟩
theorem qOf_le {pw : List (Nat × Nat)} (h : Pw pw) {x : Nat × Nat} (hx : x ∈ pw) : 1 ≤ qOf x ∧ qOf x ≤ mOf pw := by
  have := mOf_pos h
  have d := part_dvd_mOf h hx
  have := PN_lt _ (h.mem hx)
  exact ⟨Nat.pow_pos (by omega), Nat.le_of_dvd (by omega) d⟩
/-- m // q is divisible by every other prime of m, not by the one of q -/
theorem cof_dvd {pw : List (Nat × Nat)} (h : Pw pw) {x y : Nat × Nat} (hx : x ∈ pw) (hy : y ∈ pw) : y.1 ∣ mOf pw / qOf x ↔ y.1 ≠ x.1 := by
  have hxP := h.mem hx
  have hyP := h.mem hy
  have qx := qOf_le h hx
  have d := part_dvd_mOf h hx
  have e : mOf pw = qOf x * (mOf pw / qOf x) := (Nat.mul_div_cancel' d).symm
  constructor
  · intro dv ex
    -- then a higher power of the prime would divide
    have d2 : x.1 ^ (x.2 + 1) ∣ mOf pw := by
      rw [e, Nat.pow_succ]
      rw [ex] at dv
      exact Nat.mul_dvd_mul (Nat.dvd_refl _) dv
    clear e dv ex
    revert d2
    clear d qx hyP hy
    induction pw with
    | nil => cases hx
    | cons z r ih =>
      intro d2
      rcases List.mem_cons.mp hx with rfl | hx'
      · have := PN_lt _ hxP
        rw [Nat.pow_succ] at d2
        have d3 : x.1 ∣ mOf r := Nat.dvd_of_mul_dvd_mul_left (Nat.pow_pos (by omega)) (show x.1 ^ x.2 * x.1 ∣ x.1 ^ x.2 * mOf r from d2)
        exact (List.nodup_cons.mp h.nodup).1 ((dvd_mOf hxP h.tail).mp d3)
      · refine ih h.tail hx' ?_
        have c : Nat.Coprime (x.1 ^ (x.2 + 1)) (z.1 ^ z.2) := by
          refine cop_pow (Nat.Coprime.symm (cop_pow (cop_of (h.mem List.mem_cons_self) fun dd => ?_) _)) _
          have ez := eq_of_dvd (h.mem List.mem_cons_self) hxP dd
          exact (List.nodup_cons.mp h.nodup).1 (by show z.1 ∈ r.map (fun y => y.1); rw [ez]; exact List.mem_map_of_mem (f := fun y : Nat × Nat => y.1) hx')
        exact c.dvd_of_dvd_mul_left (show _ ∣ z.1 ^ z.2 * mOf r from d2)
  · intro ne
    have dm : y.1 ∣ mOf pw := (dvd_mOf hyP h).mpr (List.mem_map_of_mem hy)
    rw [e] at dm
    rcases dvd_mul_of hyP dm with q | q
    · exact absurd (eq_of_dvd hyP hxP (dvd_pow_of hyP q)) ne
    · exact q
theorem mulB {n u B C : Nat} (h : u < (n + 1) * B) (hn : n ≤ 10) (hB : 11 * B < C) : u < C :=
  Nat.lt_of_lt_of_le h (Nat.le_trans (Nat.mul_le_mul_right B (show n + 1 ≤ 11 by omega)) (Nat.le_of_lt hB))
theorem pw_len {pw : List (Nat × Nat)} (h : Pw pw) : pw.length ≤ 10 := by
  have := h.sub.length_le
  simpa [PN] using this
theorem dot_cons (c x : Int) (cs xs : List Int) : dotI (c :: cs) (x :: xs) = c * x + dotI cs xs := by
  unfold dotI
  rw [List.zipWith_cons_cons, List.sum_cons]
theorem gcdL_dvd : ∀ (cs : List Int) (m : Int), (gcdL m cs).natAbs ∣ m.natAbs ∧ ∀ c ∈ cs, (gcdL m cs).natAbs ∣ c.natAbs
  | [], m => ⟨Nat.dvd_refl _, fun c h => absurd h List.not_mem_nil⟩
  | x :: r, m => by
    have ih := gcdL_dvd r ((Nat.gcd m.natAbs x.natAbs : Nat) : Int)
    have e : gcdL m (x :: r) = gcdL ((Nat.gcd m.natAbs x.natAbs : Nat) : Int) r := rfl
    rw [e]
    have d := ih.1
    rw [Int.natAbs_natCast] at d
    refine ⟨Nat.dvd_trans d (Nat.gcd_dvd_left _ _), fun c hc => ?_⟩
    rcases List.mem_cons.mp hc with rfl | hc
    · exact Nat.dvd_trans d (Nat.gcd_dvd_right _ _)
    · exact ih.2 c hc
theorem gcdL_nonneg : ∀ (cs : List Int) (m : Int), 0 ≤ m → 0 ≤ gcdL m cs
  | [], m, h => h
  | x :: r, m, _ => gcdL_nonneg r _ (Int.natCast_nonneg _)
theorem gcdL_one {pw : List (Nat × Nat)} (h : Pw pw) {cs : List Int} (ok : ∀ x ∈ pw, ∃ c ∈ cs, ¬ (x.1 : Int) ∣ c) : gcdL (mOf pw : Nat) cs = 1 := by
  have d := gcdL_dvd cs ((mOf pw : Nat) : Int)
  rw [Int.natAbs_natCast] at d
  have n0 := gcdL_nonneg cs ((mOf pw : Nat) : Int) (Int.natCast_nonneg _)
  have g1 := prime_in h d.1 fun x hx dv => by
    obtain ⟨c, hc, nd⟩ := ok x hx
    exact nd (Int.ofNat_dvd_left.mpr (Nat.dvd_trans dv (d.2 c hc)))
  omega
theorem gcdL_mem : ∀ (cs : List Int) (m : Int) (p : Nat), p ∣ m.natAbs → (∀ c ∈ cs, p ∣ c.natAbs) → p ∣ (gcdL m cs).natAbs
  | [], m, p, h, _ => h
  | x :: r, m, p, h, hc => by
    refine gcdL_mem r ((Nat.gcd m.natAbs x.natAbs : Nat) : Int) p ?_ fun c h => hc c (List.mem_cons_of_mem _ h)
    rw [Int.natAbs_natCast]
    exact Nat.dvd_gcd h (hc x List.mem_cons_self)
theorem SOk.free {pw : List (Nat × Nat)} {cs : List Int} {r : Int} (h : SOk pw cs r) {x : Nat × Nat} (hx : x ∈ pw) : ∃ c ∈ cs, ¬ (x.1 : Int) ∣ c := by
  have hp := h.per.ok.mem hx
  have p2 := PN_lt _ hp
  refine Classical.byContradiction fun no => ?_
  have all : ∀ c ∈ cs, x.1 ∣ c.natAbs := fun c hc => by
    refine Classical.byContradiction fun nd => no ⟨c, hc, fun z => nd (Int.ofNat_dvd_left.mp z)⟩
  have d := gcdL_mem cs ((mOf pw : Nat) : Int) x.1 (by rw [Int.natAbs_natCast]; exact (dvd_mOf hp h.per.ok).mpr (List.mem_map_of_mem hx)) all
  rw [h.cop] at d
  have := Nat.le_of_dvd (by decide) d
  have : (1 : Int).natAbs = 1 := rfl
  omega
theorem Pw.single {pw : List (Nat × Nat)} (h : Pw pw) {x : Nat × Nat} (hx : x ∈ pw) : Pw [x] :=
  ⟨List.singleton_sublist.mpr (h.mem hx), fun y hy => by rw [List.mem_singleton.mp hy]; exact h.pos x hx⟩
theorem mOf_single (x : Nat × Nat) : mOf [x] = qOf x := Nat.mul_one _
theorem dot_mod (q : Int) : ∀ (cs xs : List Int), (dotI (cs.map fun c => c % q) xs) % q = (dotI cs xs) % q
  | [], xs => rfl
  | c :: cs, [] => rfl
  | c :: cs, x :: xs => by
    have ih := dot_mod q cs xs
    rw [List.map_cons, dot_cons, dot_cons, Int.add_emod, ih, ← Int.add_emod, Int.add_emod, Int.mul_emod, Int.emod_emod, ← Int.mul_emod, ← Int.add_emod]
theorem part_due {q : Int} (cs xs : List Int) (r : Int) : (dotI (cs.map fun c => c % q) xs - r % q) % q = (dotI cs xs - r) % q := by
  rw [Int.sub_emod, dot_mod, Int.emod_emod, ← Int.sub_emod]
/-- a part of a stripe is a stripe -/
theorem SOk.part {pw : List (Nat × Nat)} {cs : List Int} {r : Int} (h : SOk pw cs r) {x : Nat × Nat} (hx : x ∈ pw) :
    SOk [x] (cs.map fun c => c % ((qOf x : Nat) : Int)) (r % ((qOf x : Nat) : Int)) := by
  have hp := h.per.ok.mem hx
  have p2 := PN_lt _ hp
  have ql := qOf_le h.per.ok hx
  have q0 : (0 : Int) < ((qOf x : Nat) : Int) := by omega
  refine ⟨⟨Pw.single h.per.ok hx, ?_, ?_⟩, by simpa using h.l1, by simpa using h.l3, ?_, ?_, ?_⟩
  · show x.1 * 1 ≤ 1000
    omega
  · rw [mOf_single]
    exact Nat.lt_of_le_of_lt ql.2 h.per.bd
  · intro c hc
    obtain ⟨c0, _, rfl⟩ := List.mem_map.mp hc
    rw [mOf_single]
    exact emodB _ q0
  · rw [mOf_single]
    exact emodB _ q0
  · refine gcdL_one (Pw.single h.per.ok hx) fun y hy => ?_
    obtain rfl := List.mem_singleton.mp hy
    obtain ⟨c, hc, nd⟩ := h.free hx
    refine ⟨c % ((qOf y : Nat) : Int), List.mem_map_of_mem hc, fun z => nd ?_⟩
    have pq : (y.1 : Int) ∣ ((qOf y : Nat) : Int) := by
      rw [Int.natCast_dvd_natCast]
      have := h.per.ok.pos y hx
      refine ⟨y.1 ^ (y.2 - 1), ?_⟩
      show y.1 ^ y.2 = _
      rw [Nat.mul_comm, ← Nat.pow_succ]
      congr 1
      omega
    have e := Int.emod_add_mul_ediv c ((qOf y : Nat) : Int)
    rw [← e]
    exact Int.dvd_add z (Int.dvd_trans pq (Int.dvd_mul_right _ _))
theorem bez (a b : Nat) : ∃ u v : Int, u * a + v * b = ((Nat.gcd a b : Nat) : Int) := by
  induction a, b using Nat.gcd.induction with
  | H0 n => exact ⟨0, 1, by simp⟩
  | H1 m n hm ih =>
    obtain ⟨u, v, e⟩ := ih
    refine ⟨v - u * ((n / m : Nat) : Int), u, ?_⟩
    rw [Nat.gcd_rec, ← e]
    have d : ((n % m : Nat) : Int) = (n : Int) - (m : Int) * ((n / m : Nat) : Int) := by
      have := Nat.mod_add_div n m
      have h2 : ((n % m : Nat) : Int) + ((m * (n / m) : Nat) : Int) = (n : Int) := by omega
      rw [Int.natCast_mul] at h2
      omega
    rw [d]
    grind
theorem inv_ex {q : Nat} {c : Int} (h : Nat.Coprime q c.natAbs) : ∃ u : Int, (q : Int) ∣ u * c - 1 := by
  obtain ⟨u, v, e⟩ := bez q c.natAbs
  rw [show Nat.gcd q c.natAbs = 1 from h] at e
  rcases Int.natAbs_eq c with k | k
  · refine ⟨v, -u, ?_⟩
    rw [k]
    have e' : u * (q : Int) + v * (c.natAbs : Int) = 1 := e
    grind
  · refine ⟨-v, -u, ?_⟩
    rw [k]
    have e' : u * (q : Int) + v * (c.natAbs : Int) = 1 := e
    grind
theorem emod_of_sub {m a b : Int} (h : m ∣ a - b) : a % m = b % m := (Int.emod_eq_emod_iff_emod_sub_eq_zero).mpr (Int.emod_eq_zero_of_dvd h)
theorem sub_of_emod {m a b : Int} (h : a % m = b % m) : m ∣ a - b := Int.dvd_of_emod_eq_zero ((Int.emod_eq_emod_iff_emod_sub_eq_zero).mp h)
theorem dvd_nat {m : Nat} {z : Int} : (m : Int) ∣ z ↔ m ∣ z.natAbs := Int.ofNat_dvd_left
theorem m_dvd {pw : List (Nat × Nat)} (h : Pw pw) {z : Int} (hq : ∀ x ∈ pw, ((qOf x : Nat) : Int) ∣ z) : ((mOf pw : Nat) : Int) ∣ z :=
  dvd_nat.mpr ((parts_dvd h).mp fun x hx => dvd_nat.mp (hq x hx))
theorem q_dvd {pw : List (Nat × Nat)} (h : Pw pw) {x : Nat × Nat} (hx : x ∈ pw) {z : Int} (hz : ((mOf pw : Nat) : Int) ∣ z) : ((qOf x : Nat) : Int) ∣ z :=
  Int.dvd_trans (Int.natCast_dvd_natCast.mpr (part_dvd_mOf h hx)) hz
theorem p_dvd {pw : List (Nat × Nat)} (h : Pw pw) {x : Nat × Nat} (hx : x ∈ pw) {z : Int} (hz : ((qOf x : Nat) : Int) ∣ z) : (x.1 : Int) ∣ z := by
  refine Int.dvd_trans (Int.natCast_dvd_natCast.mpr ?_) hz
  have := h.pos x hx
  exact Nat.dvd_trans (by rw [Nat.pow_one]; exact Nat.dvd_refl _) (Nat.pow_dvd_pow x.1 this)
theorem q_cop {x : Nat × Nat} (hp : x.1 ∈ PN) {c : Int} (nd : ¬ (x.1 : Int) ∣ c) : Nat.Coprime (qOf x) c.natAbs := cop_pow (cop_of hp fun z => nd (dvd_nat.mpr z)) _
theorem q_of_mul {x : Nat × Nat} (hp : x.1 ∈ PN) {a c : Int} (nd : ¬ (x.1 : Int) ∣ c) (h : ((qOf x : Nat) : Int) ∣ a * c) : ((qOf x : Nat) : Int) ∣ a := by
  have h := dvd_nat.mp h
  rw [Int.natAbs_mul] at h
  exact dvd_nat.mpr ((q_cop hp nd).dvd_of_dvd_mul_right h)
theorem p_of_mul {p : Nat} (hp : p ∈ PN) {a c : Int} (nd : ¬ (p : Int) ∣ c) (h : (p : Int) ∣ a * c) : (p : Int) ∣ a := by
  have h := dvd_nat.mp h
  rw [Int.natAbs_mul] at h
  exact dvd_nat.mpr ((cop_of hp fun z => nd (dvd_nat.mpr z)).dvd_of_dvd_mul_right h)
theorem p_one {p : Nat} (hp : p ∈ PN) : ¬ (p : Int) ∣ 1 := by
  have := PN_lt p hp
  intro z
  have := Int.le_of_dvd (by decide) z
  omega
theorem crt : ∀ {pw : List (Nat × Nat)}, Pw pw → ∀ t : Nat × Nat → Int, ∃ u : Int, ∀ x ∈ pw, ((qOf x : Nat) : Int) ∣ u - t x
  | [], _, _ => ⟨0, fun _ h => absurd h List.not_mem_nil⟩
  | x :: r, hw, t => by
    obtain ⟨u', hu⟩ := crt hw.tail t
    have hx := hw.mem List.mem_cons_self
    have c : Nat.Coprime (qOf x) (mOf r) := by
      refine cop_pow (cop_of hx fun d => ?_) _
      exact (List.nodup_cons.mp hw.nodup).1 ((dvd_mOf hx hw.tail).mp d)
    obtain ⟨a, b, e⟩ := bez (qOf x) (mOf r)
    rw [show Nat.gcd (qOf x) (mOf r) = 1 from c] at e
    have e : a * ((qOf x : Nat) : Int) + b * ((mOf r : Nat) : Int) = 1 := e
    refine ⟨t x * (b * ((mOf r : Nat) : Int)) + u' * (a * ((qOf x : Nat) : Int)), fun y hy => ?_⟩
    rcases List.mem_cons.mp hy with rfl | hy
    · exact ⟨(u' - t y) * a, by grind⟩
    · obtain ⟨k, hk⟩ := hu y hy
      obtain ⟨l, hl⟩ := Int.natCast_dvd_natCast.mpr (part_dvd_mOf hw.tail hy)
      have hl : ((mOf r : Nat) : Int) = ((qOf y : Nat) : Int) * l := hl
      exact ⟨(t x - u') * b * l + k, by grind⟩
/-- the first of the numbers that the prime does not divide -/
structure IsFst (p : Nat) (cs : List Int) (k : Nat) (c : Int) : Prop where
  at_ : cs[k]? = some c
  nd : ¬ (p : Int) ∣ c
  ahead : ∀ (j : Nat) (b : Int), j < k → cs[j]? = some b → (p : Int) ∣ b
theorem IsFst.uniq {p : Nat} {cs : List Int} {k k' : Nat} {c c' : Int} (h : IsFst p cs k c) (h' : IsFst p cs k' c') : k = k' ∧ c = c' := by
  have e : k = k' := by
    rcases Nat.lt_trichotomy k k' with z | z | z
    · exact absurd (h'.ahead k c z h.at_) h.nd
    · exact z
    · exact absurd (h.ahead k' c' z h'.at_) h'.nd
  subst e
  exact ⟨rfl, Option.some.inj (h.at_.symm.trans h'.at_)⟩
theorem fst_ex {p : Nat} : ∀ {cs : List Int}, (∃ c ∈ cs, ¬ (p : Int) ∣ c) → ∃ k c, IsFst p cs k c
  | [], h => by
    obtain ⟨c, hc, _⟩ := h
    exact absurd hc List.not_mem_nil
  | b :: r, h => by
    by_cases d : (p : Int) ∣ b
    · obtain ⟨c, hc, nd⟩ := h
      have hr : ∃ c ∈ r, ¬ (p : Int) ∣ c := by
        rcases List.mem_cons.mp hc with rfl | hc
        · exact absurd d nd
        · exact ⟨c, hc, nd⟩
      obtain ⟨k, c, i⟩ := fst_ex hr
      refine ⟨k + 1, c, i.at_, i.nd, fun j z hj e => ?_⟩
      cases j with
      | zero =>
        cases e
        exact d
      | succ j => exact i.ahead j z (by omega) e
    · exact ⟨0, b, rfl, d, fun j _ hj _ => absurd hj (Nat.not_lt_zero _)⟩
abbrev Free (pw : List (Nat × Nat)) (cs : List Int) : Prop := ∀ x ∈ pw, ∃ c ∈ cs, ¬ (x.1 : Int) ∣ c
def IsU (pw : List (Nat × Nat)) (cs : List Int) (u : Int) : Prop := ∀ x ∈ pw, ∀ k c, IsFst x.1 cs k c → ((qOf x : Nat) : Int) ∣ u * c - 1
theorem isU_ex {pw : List (Nat × Nat)} (h : Pw pw) {cs : List Int} (f : Free pw cs) : ∃ u, IsU pw cs u := by
  have ex : ∀ x : Nat × Nat, ∃ t : Int, x ∈ pw → ∀ k c, IsFst x.1 cs k c → ((qOf x : Nat) : Int) ∣ t * c - 1 := by
    intro x
    by_cases hx : x ∈ pw
    · obtain ⟨k, c, i⟩ := fst_ex (f x hx)
      obtain ⟨t, ht⟩ := inv_ex (q_cop (h.mem hx) i.nd)
      refine ⟨t, fun _ k' c' i' => ?_⟩
      obtain ⟨rfl, rfl⟩ := i.uniq i'
      exact ht
    · exact ⟨0, fun z => absurd z hx⟩
  obtain ⟨u, hu⟩ := crt h fun x => Classical.choose (ex x)
  refine ⟨u, fun x hx k c i => ?_⟩
  obtain ⟨a, ha⟩ := hu x hx
  obtain ⟨b, hb⟩ := Classical.choose_spec (ex x) hx k c i
  exact ⟨a * c + b, by grind⟩
theorem IsU.unit {pw : List (Nat × Nat)} (h : Pw pw) {cs : List Int} (f : Free pw cs) {u : Int} (hu : IsU pw cs u) {x : Nat × Nat} (hx : x ∈ pw) : ¬ (x.1 : Int) ∣ u := by
  obtain ⟨k, c, i⟩ := fst_ex (f x hx)
  intro z
  have := p_dvd h hx (hu x hx k c i)
  have d := Int.dvd_sub (Int.dvd_mul_of_dvd_left (c := c) z) this
  rw [show u * c - (u * c - 1) = 1 by omega] at d
  exact p_one (h.mem hx) d
theorem IsU.uniq {pw : List (Nat × Nat)} (h : Pw pw) {cs : List Int} (f : Free pw cs) {u v : Int} (hu : IsU pw cs u) (hv : IsU pw cs v) : ((mOf pw : Nat) : Int) ∣ u - v := by
  refine m_dvd h fun x hx => ?_
  obtain ⟨k, c, i⟩ := fst_ex (f x hx)
  refine q_of_mul (h.mem hx) i.nd ?_
  have d := Int.dvd_sub (hu x hx k c i) (hv x hx k c i)
  rw [show u * c - 1 - (v * c - 1) = (u - v) * c by grind] at d
  exact d
noncomputable def nfU (pw : List (Nat × Nat)) (cs : List Int) : Int := open Classical in if h : ∃ u, IsU pw cs u then Classical.choose h else 0
theorem nfU_is {pw : List (Nat × Nat)} (h : Pw pw) {cs : List Int} (f : Free pw cs) : IsU pw cs (nfU pw cs) := by
  unfold nfU
  have e := isU_ex h f
  rw [dif_pos e]
  exact Classical.choose_spec e
/-- all numbers times u by m -/
def mulM (m : Nat) (u : Int) (cs : List Int) : List Int := cs.map fun c => (u * c) % (m : Int)
noncomputable def nfC (pw : List (Nat × Nat)) (cs : List Int) : List Int := mulM (mOf pw) (nfU pw cs) cs
noncomputable def nfR (pw : List (Nat × Nat)) (cs : List Int) (r : Int) : Int := (nfU pw cs * r) % ((mOf pw : Nat) : Int)
theorem mul_same {m u v : Int} (h : m ∣ u - v) (c : Int) : (u * c) % m = (v * c) % m := by
  refine emod_of_sub ?_
  rw [← Int.sub_mul]
  exact Int.dvd_mul_of_dvd_left h
theorem nf_of {pw : List (Nat × Nat)} (h : Pw pw) {cs : List Int} (f : Free pw cs) {u : Int} (hu : IsU pw cs u) : mulM (mOf pw) u cs = nfC pw cs ∧ ∀ r, (u * r) % ((mOf pw : Nat) : Int) = nfR pw cs r := by
  have d := hu.uniq h f (nfU_is h f)
  exact ⟨List.map_congr_left fun c _ => mul_same d c, fun r => mul_same d r⟩
theorem nfC_len (pw : List (Nat × Nat)) (cs : List Int) : (nfC pw cs).length = cs.length := List.length_map _
theorem mem_mulM {m : Nat} (hm : 1 ≤ m) {u : Int} {cs : List Int} {c : Int} (h : c ∈ mulM m u cs) : 0 ≤ c ∧ c < m := by
  obtain ⟨b, _, rfl⟩ := List.mem_map.mp h
  exact ⟨Int.emod_nonneg _ (by omega), Int.emod_lt_of_pos _ (by omega)⟩
theorem p_emod {pw : List (Nat × Nat)} (h : Pw pw) {x : Nat × Nat} (hx : x ∈ pw) (z : Int) : (x.1 : Int) ∣ z % ((mOf pw : Nat) : Int) ↔ (x.1 : Int) ∣ z := by
  have pm : (x.1 : Int) ∣ ((mOf pw : Nat) : Int) := p_dvd h hx (Int.natCast_dvd_natCast.mpr (part_dvd_mOf h hx))
  have e := Int.emod_add_mul_ediv z ((mOf pw : Nat) : Int)
  constructor
  · intro d
    rw [← e]
    exact Int.dvd_add d (Int.dvd_mul_of_dvd_left pm)
  · intro d
    have : z % ((mOf pw : Nat) : Int) = z - ((mOf pw : Nat) : Int) * (z / ((mOf pw : Nat) : Int)) := by omega
    rw [this]
    exact Int.dvd_sub d (Int.dvd_mul_of_dvd_left pm)
/-- the first place stays where all numbers are multiplied by a unit -/
theorem fst_mul {pw : List (Nat × Nat)} (h : Pw pw) {x : Nat × Nat} (hx : x ∈ pw) {u : Int} (nu : ¬ (x.1 : Int) ∣ u) {cs : List Int} {k : Nat} {c : Int} (i : IsFst x.1 cs k c) : IsFst x.1 (mulM (mOf pw) u cs) k ((u * c) % ((mOf pw : Nat) : Int)) := by
  refine ⟨?_, ?_, fun j b hj e => ?_⟩
  · unfold mulM
    rw [List.getElem?_map, i.at_]
    rfl
  · rw [p_emod h hx]
    intro z
    rw [Int.mul_comm] at z
    exact i.nd (p_of_mul (h.mem hx) nu z)
  · unfold mulM at e
    rw [List.getElem?_map] at e
    obtain ⟨d, hd, rfl⟩ := Option.map_eq_some_iff.mp e
    rw [p_emod h hx]
    exact Int.dvd_mul_of_dvd_right (i.ahead j d hj hd)
theorem free_mul {pw : List (Nat × Nat)} (h : Pw pw) {u : Int} (nu : ∀ x ∈ pw, ¬ (x.1 : Int) ∣ u) {cs : List Int} (f : Free pw cs) : Free pw (mulM (mOf pw) u cs) := by
  intro x hx
  obtain ⟨k, c, i⟩ := fst_ex (f x hx)
  have j := fst_mul h hx (nu x hx) i
  exact ⟨_, List.mem_of_getElem? j.at_, j.nd⟩
theorem nf_free {pw : List (Nat × Nat)} (h : Pw pw) {cs : List Int} (f : Free pw cs) : Free pw (nfC pw cs) := free_mul h (fun _ hx => (nfU_is h f).unit h f hx) f
/-- in the normal numbers the first one is 1 by the prime power -/
theorem nf_one {pw : List (Nat × Nat)} (h : Pw pw) {cs : List Int} (f : Free pw cs) : IsU pw (nfC pw cs) 1 := by
  intro x hx k c i
  obtain ⟨k0, c0, i0⟩ := fst_ex (f x hx)
  obtain ⟨rfl, rfl⟩ := i.uniq (fst_mul h hx ((nfU_is h f).unit h f hx) i0)
  have d := nfU_is h f x hx _ _ i0
  have e := Int.emod_add_mul_ediv (nfU pw cs * c0) ((mOf pw : Nat) : Int)
  have dm : ((qOf x : Nat) : Int) ∣ ((mOf pw : Nat) : Int) := Int.natCast_dvd_natCast.mpr (part_dvd_mOf h hx)
  have d2 : ((qOf x : Nat) : Int) ∣ ((mOf pw : Nat) : Int) * (nfU pw cs * c0 / ((mOf pw : Nat) : Int)) := Int.dvd_mul_of_dvd_left dm
  have d3 := Int.dvd_sub d d2
  rw [Int.one_mul]
  rw [show nfU pw cs * c0 - 1 - ((mOf pw : Nat) : Int) * (nfU pw cs * c0 / ((mOf pw : Nat) : Int)) = (nfU pw cs * c0) % ((mOf pw : Nat) : Int) - 1 by omega] at d3
  exact d3
theorem mulM_one {m : Nat} {cs : List Int} (c0 : ∀ c ∈ cs, 0 ≤ c ∧ c < m) : mulM m 1 cs = cs := by
  unfold mulM
  rw [show cs = cs.map id by simp]
  simp only [List.map_map]
  refine List.map_congr_left fun c hc => ?_
  have := c0 c (by simpa using hc)
  show (1 * c) % (m : Int) = c
  rw [Int.one_mul]
  exact Int.emod_eq_of_lt this.1 this.2
/-- numbers that are normal are their own normal numbers -/
theorem nf_self {pw : List (Nat × Nat)} (h : Pw pw) {cs : List Int} (f : Free pw cs) (c0 : ∀ c ∈ cs, 0 ≤ c ∧ c < (mOf pw : Nat)) (hu : IsU pw cs 1) : nfC pw cs = cs ∧ ∀ r : Int, 0 ≤ r → r < (mOf pw : Nat) → nfR pw cs r = r := by
  obtain ⟨e1, e2⟩ := nf_of h f hu
  refine ⟨by rw [← e1]; exact mulM_one c0, fun r r0 r1 => ?_⟩
  rw [← e2, Int.one_mul]
  exact Int.emod_eq_of_lt r0 r1
theorem nfC_bd {pw : List (Nat × Nat)} (h : Pw pw) (cs : List Int) : ∀ c ∈ nfC pw cs, 0 ≤ c ∧ c < (mOf pw : Nat) := fun _ hc => mem_mulM (mOf_pos h) hc
theorem nfR_bd {pw : List (Nat × Nat)} (h : Pw pw) (cs : List Int) (r : Int) : 0 ≤ nfR pw cs r ∧ nfR pw cs r < (mOf pw : Nat) := by
  have := mOf_pos h
  exact ⟨Int.emod_nonneg _ (by omega), Int.emod_lt_of_pos _ (by omega)⟩
theorem nf_idem {pw : List (Nat × Nat)} (h : Pw pw) {cs : List Int} (f : Free pw cs) (r : Int) : nfC pw (nfC pw cs) = nfC pw cs ∧ nfR pw (nfC pw cs) (nfR pw cs r) = nfR pw cs r := by
  obtain ⟨e1, e2⟩ := nf_self h (nf_free h f) (nfC_bd h cs) (nf_one h f)
  exact ⟨e1, e2 _ (nfR_bd h cs r).1 (nfR_bd h cs r).2⟩
/-- all products across are alike by m -/
def Cross (m : Nat) (a b : List Int) : Prop := ∀ (i j : Nat) (x y z w : Int), a[i]? = some x → a[j]? = some y → b[i]? = some z → b[j]? = some w → (m : Int) ∣ x * w - y * z
theorem mulM_at {m : Nat} {u : Int} {cs : List Int} {i : Nat} {c : Int} (h : cs[i]? = some c) : (mulM m u cs)[i]? = some ((u * c) % (m : Int)) := by
  unfold mulM
  rw [List.getElem?_map, h]
  rfl
theorem unit_drop {pw : List (Nat × Nat)} (h : Pw pw) {u : Int} (nu : ∀ x ∈ pw, ¬ (x.1 : Int) ∣ u) {z : Int} (d : ((mOf pw : Nat) : Int) ∣ u * z) : ((mOf pw : Nat) : Int) ∣ z := by
  refine m_dvd h fun x hx => q_of_mul (h.mem hx) (nu x hx) ?_
  rw [Int.mul_comm]
  exact q_dvd h hx d
theorem cross_of_rows {pw : List (Nat × Nat)} (h : Pw pw) {u v : Int} (nu : ∀ x ∈ pw, ¬ (x.1 : Int) ∣ u) {a b : List Int} (e : mulM (mOf pw) u a = mulM (mOf pw) v b) : Cross (mOf pw) a b := by
  intro i j x y z w hx hy hz hw
  have e1 : (u * x) % ((mOf pw : Nat) : Int) = (v * z) % ((mOf pw : Nat) : Int) := by
    have := mulM_at (m := mOf pw) (u := u) hx
    rw [e, mulM_at hz] at this
    exact (Option.some.inj this).symm
  have e2 : (u * y) % ((mOf pw : Nat) : Int) = (v * w) % ((mOf pw : Nat) : Int) := by
    have := mulM_at (m := mOf pw) (u := u) hy
    rw [e, mulM_at hw] at this
    exact (Option.some.inj this).symm
  refine unit_drop h nu ?_
  obtain ⟨k, hk⟩ := sub_of_emod e1
  obtain ⟨l, hl⟩ := sub_of_emod e2
  exact ⟨k * w - l * z, by grind⟩
theorem rows_of_cross {pw : List (Nat × Nat)} (h : Pw pw) {cs ds : List Int} {r s : Int} (hl : cs.length = ds.length) (f : Free pw cs) (g : Free pw ds) {u v : Int} (hu : IsU pw cs u) (hv : IsU pw ds v) (X : Cross (mOf pw) (cs ++ [r]) (ds ++ [s])) :
    mulM (mOf pw) u (cs ++ [r]) = mulM (mOf pw) v (ds ++ [s]) := by
  refine List.ext_getElem? fun i => ?_
  unfold mulM
  rw [List.getElem?_map, List.getElem?_map]
  cases ea : (cs ++ [r])[i]? with
  | none =>
    have : (ds ++ [s])[i]? = none := by
      rw [List.getElem?_eq_none_iff] at ea ⊢
      simpa [← hl] using ea
    rw [this]
    rfl
  | some x =>
    have hi : i < (ds ++ [s]).length := by
      have := (List.getElem?_eq_some_iff.mp ea).1
      simpa [← hl] using this
    obtain ⟨z, eb⟩ : ∃ z, (ds ++ [s])[i]? = some z := ⟨_, List.getElem?_eq_getElem hi⟩
    rw [eb]
    show some _ = some _
    congr 1
    refine emod_of_sub (m_dvd h fun q hq => ?_)
    obtain ⟨k, c, ic⟩ := fst_ex (f q hq)
    have hk : k < ds.length := by
      have := (List.getElem?_eq_some_iff.mp ic.at_).1
      omega
    have ak : (cs ++ [r])[k]? = some c := by
      rw [List.getElem?_append_left (by omega)]
      exact ic.at_
    obtain ⟨d, ed⟩ : ∃ d, ds[k]? = some d := ⟨_, List.getElem?_eq_getElem hk⟩
    have bk : (ds ++ [s])[k]? = some d := by
      rw [List.getElem?_append_left hk]
      exact ed
    have hp := h.mem hq
    have nd : ¬ (q.1 : Int) ∣ d := by
      intro pd
      obtain ⟨b, hb, nb⟩ := g q hq
      obtain ⟨j, hj, ej⟩ := List.mem_iff_getElem.mp hb
      have bj : (ds ++ [s])[j]? = some b := by rw [List.getElem?_append_left hj, ← ej]; exact List.getElem?_eq_getElem hj
      have aj : (cs ++ [r])[j]? = some (cs[j]'(by omega)) := by rw [List.getElem?_append_left (by omega)]; exact List.getElem?_eq_getElem _
      have t := p_dvd h hq (q_dvd h hq (X k j c _ d b ak aj bk bj))
      have t2 := Int.dvd_add t (Int.dvd_mul_of_dvd_right (b := cs[j]'(by omega)) pd)
      rw [show c * b - cs[j]'(by omega) * d + cs[j]'(by omega) * d = b * c by grind] at t2
      exact nb (p_of_mul hp ic.nd t2)
    have id : IsFst q.1 ds k d := by
      refine ⟨ed, nd, fun j b hj e => ?_⟩
      have bj : (ds ++ [s])[j]? = some b := by rw [List.getElem?_append_left (by omega)]; exact e
      have aj : (cs ++ [r])[j]? = some (cs[j]'(by omega)) := by rw [List.getElem?_append_left (by omega)]; exact List.getElem?_eq_getElem _
      have pa := ic.ahead j _ hj (List.getElem?_eq_getElem (by omega))
      have t := p_dvd h hq (q_dvd h hq (X k j c _ d b ak aj bk bj))
      have t2 := Int.dvd_add t (Int.dvd_mul_of_dvd_left (c := d) pa)
      rw [show c * b - cs[j]'(by omega) * d + cs[j]'(by omega) * d = b * c by grind] at t2
      exact p_of_mul hp ic.nd t2
    have q1 := hu q hq k c ic
    have q2 := hv q hq k d id
    have q3 := q_dvd h hq (X i k x c z d ea ak eb bk)
    have fin : ((qOf q : Nat) : Int) ∣ (u * x - v * z) * d * c := by
      obtain ⟨k1, e1⟩ := q1
      obtain ⟨k2, e2⟩ := q2
      obtain ⟨k3, e3⟩ := q3
      exact ⟨k1 * x * d - k2 * z * c + k3, by grind⟩
    exact q_of_mul hp nd (q_of_mul hp ic.nd fin)
theorem mulM_append (m : Nat) (u : Int) (cs : List Int) (r : Int) : mulM m u (cs ++ [r]) = mulM m u cs ++ [(u * r) % (m : Int)] := by
  unfold mulM
  rw [List.map_append]
  rfl
/-- two stripes are told alike exactly if all products across are alike -/
theorem nf_iff {pw : List (Nat × Nat)} (h : Pw pw) {cs ds : List Int} {r s : Int} (hl : cs.length = ds.length) (f : Free pw cs) (g : Free pw ds) :
    (nfC pw cs = nfC pw ds ∧ nfR pw cs r = nfR pw ds s) ↔ Cross (mOf pw) (cs ++ [r]) (ds ++ [s]) := by
  have hu := nfU_is h f
  have hv := nfU_is h g
  constructor
  · rintro ⟨e1, e2⟩
    refine cross_of_rows h (u := nfU pw cs) (v := nfU pw ds) (fun x hx => hu.unit h f hx) ?_
    rw [mulM_append, mulM_append]
    exact congr (congrArg _ e1) (congrArg (fun z => [z]) e2)
  · intro X
    have e := rows_of_cross h hl f g hu hv X
    rw [mulM_append, mulM_append] at e
    obtain ⟨e1, e2⟩ := List.append_inj e (by simp [mulM, hl])
    exact ⟨e1, (List.cons.inj e2).1⟩
theorem part_of {pw : List (Nat × Nat)} (h : Pw pw) {x : Nat × Nat} (hx : x ∈ pw) {k : Nat} (h1 : x.1 ^ k ∣ mOf pw) (h2 : ¬ x.1 ^ (k + 1) ∣ mOf pw) : k = x.2 := by
  have p2 := PN_lt _ (h.mem hx)
  have dv := part_dvd_mOf h hx
  rcases Nat.lt_trichotomy k x.2 with c | c | c
  · exact absurd (Nat.dvd_trans (Nat.pow_dvd_pow x.1 c) dv) h2
  · exact c
  · have d : x.1 ^ (x.2 + 1) ∣ mOf pw := Nat.dvd_trans (Nat.pow_dvd_pow x.1 c) h1
    obtain ⟨e, he⟩ := dv
    have q0 : 0 < x.1 ^ x.2 := Nat.pow_pos (by omega)
    rw [he, Nat.pow_succ] at d
    have d2 : x.1 ∣ e := Nat.dvd_of_mul_dvd_mul_left q0 d
    have e2 : mOf pw / qOf x = e := by rw [he]; exact Nat.mul_div_cancel_left _ q0
    rw [← e2] at d2
    exact absurd rfl ((cof_dvd h hx hx).mp d2)
theorem pw_ne {pw : List (Nat × Nat)} (h : Pw pw) {x y : Nat × Nat} {i j : Nat} (hx : pw[i]? = some x) (hy : pw[j]? = some y) (ne : j ≠ i) : y.1 ≠ x.1 := by
  intro e
  have n := h.nodup
  obtain ⟨hi, ex⟩ := List.getElem?_eq_some_iff.mp hx
  obtain ⟨hj, ey⟩ := List.getElem?_eq_some_iff.mp hy
  have h1 : (pw.map (·.1))[j]'(by simpa using hj) = (pw.map (·.1))[i]'(by simpa using hi) := by
    rw [List.getElem_map, List.getElem_map, ex, ey]
    exact e
  exact ne ((List.getElem_inj n).mp h1)
theorem cof_q {pw : List (Nat × Nat)} (h : Pw pw) {x y : Nat × Nat} (hx : x ∈ pw) (hy : y ∈ pw) (ne : y.1 ≠ x.1) : qOf y ∣ mOf pw / qOf x := by
  have hxP := h.mem hx
  have hyP := h.mem hy
  obtain ⟨e, he⟩ := part_dvd_mOf h hx
  have p2 := PN_lt _ hxP
  have q0 : 0 < qOf x := Nat.pow_pos (by omega)
  have he : mOf pw = qOf x * e := he
  have e2 : mOf pw / qOf x = e := by rw [he]; exact Nat.mul_div_cancel_left _ q0
  rw [e2]
  have d : qOf y ∣ qOf x * e := by
    rw [← he]
    exact part_dvd_mOf h hy
  have c : Nat.Coprime (qOf y) (qOf x) := by
    refine cop_pow (cop_of hyP fun z => ?_) _
    exact ne (eq_of_dvd hyP hxP (dvd_pow_of hyP z))
  exact c.dvd_of_dvd_mul_left d
theorem Bd.sum {b n : Nat} {i j : Int} (h : i.natAbs ≤ n * 2 ^ b) (h' : Bd b j) : (i + j).natAbs ≤ (n + 1) * 2 ^ b := by
  have := Int.natAbs_add_le i j
  unfold Bd at h'
  rw [Nat.add_mul, Nat.one_mul]
  omega
theorem SOk.fr {pw : List (Nat × Nat)} {cs : List Int} {r : Int} (h : SOk pw cs r) : Free pw cs := fun _ hx => h.free hx
theorem SOk.rbd {pw : List (Nat × Nat)} {cs : List Int} {r : Int} (h : SOk pw cs r) : Bd 2000 r := by
  have := h.r0
  have := h.per.bd
  unfold Bd
  omega
theorem SOk.mk2 {pw : List (Nat × Nat)} (hP : Per pw) {cs : List Int} {r : Int} (l1 : 1 ≤ cs.length) (l3 : cs.length ≤ 3) (c0 : ∀ c ∈ cs, 0 ≤ c ∧ c < (mOf pw : Nat))
    (ok : Free pw cs) (r0 : 0 ≤ r ∧ r < (mOf pw : Nat)) : SOk pw cs r := ⟨hP, l1, l3, c0, r0, gcdL_one hP.ok ok⟩
theorem SOk.nf {pw : List (Nat × Nat)} {cs : List Int} {r : Int} (h : SOk pw cs r) : SOk pw (nfC pw cs) (nfR pw cs r) :=
  SOk.mk2 h.per (by rw [nfC_len]; exact h.l1) (by rw [nfC_len]; exact h.l3) (nfC_bd h.per.ok cs) (nf_free h.per.ok h.fr) (nfR_bd h.per.ok cs r)
theorem shaped_str {m : Nat} {cs : List Int} {r : Int} : SeqAt.shaped (strD m cs r) = true := by
  have h : ∀ cs : List Int, PyData.canLayAll0 (cs.map PyData.int) = true ∧ PyData.depthAll (cs.map PyData.int) = 0 := by
    intro cs
    induction cs with
    | nil => simp [PyData.canLayAll0, PyData.depthAll]
    | cons c r ih => simp [PyData.canLayAll0, PyData.depthAll, PyData.canLay0, PyData.depth, ih.1, ih.2]
  obtain ⟨h1, h2⟩ := h cs
  simp [SeqAt.shaped, strD, PyData.canLay0, PyData.canLayAll0, h1, PyData.depth, PyData.depthAll, h2]
theorem lay_ints : ∀ cs : List Int, PyData.canLayAll0 (cs.map PyData.int) = true
  | [] => rfl
  | c :: r => by
    have ih := lay_ints r
    simp only [List.map_cons, PyData.canLayAll0, PyData.canLay0, ih, Bool.and_self]
theorem depth_ints : ∀ cs : List Int, PyData.depthAll (cs.map PyData.int) = 0
  | [] => by simp [PyData.depthAll]
  | c :: r => by
    have ih := depth_ints r
    simp only [List.map_cons, PyData.depthAll, PyData.depth, ih]
    rfl
theorem shaped_ints (cs : List Int) : SeqAt.shaped (.list (cs.map PyData.int)) = true := by
  unfold SeqAt.shaped
  simp [PyData.canLay0, lay_ints, PyData.depth, depth_ints]
theorem mid64 (z : Int) : -(2 ^ 64) < z % 2147483647 ∧ z % 2147483647 < 2 ^ 64 := by omega
theorem bdN {n : Nat} {i : Int} (h0 : 0 ≤ i) (h : i ≤ n) (hn : n < 2 ^ 2000) : Bd 2000 i := by
  unfold Bd
  omega
def prodI (ns : List Nat) : Nat := ns.foldl (fun a b => a * b) 1
theorem prodI_snoc (ns : List Nat) (n : Nat) : prodI (ns ++ [n]) = prodI ns * n := by
  unfold prodI
  rw [List.foldl_append]
  rfl
theorem prodI_pos : ∀ {ns : List Nat}, (∀ n ∈ ns, 1 ≤ n) → ∀ a, 1 ≤ a → a ≤ ns.foldl (fun a b => a * b) a
  | [], _, a, _ => Nat.le_refl a
  | n :: r, h, a, ha => by
    have h1 := h n List.mem_cons_self
    have h2 : a ≤ a * n := Nat.le_mul_of_pos_right a h1
    exact Nat.le_trans h2 (prodI_pos (fun m hm => h m (List.mem_cons_of_mem _ hm)) (a * n) (Nat.le_trans ha h2))
theorem prodI_take {ns : List Nat} (h : ∀ n ∈ ns, 1 ≤ n) (i : Nat) : 1 ≤ prodI (ns.take i) ∧ prodI (ns.take i) ≤ prodI ns := by
  have h1 : 1 ≤ prodI (ns.take i) := prodI_pos (fun m hm => h m (List.mem_of_mem_take hm)) 1 (Nat.le_refl 1)
  refine ⟨h1, ?_⟩
  have e : prodI ns = (ns.drop i).foldl (fun a b => a * b) (prodI (ns.take i)) := by
    unfold prodI
    rw [← List.foldl_append, List.take_append_drop]
  rw [e]
  exact prodI_pos (fun m hm => h m (List.mem_of_mem_drop hm)) _ h1
theorem abs_nat (i : Int) : (if i < 0 then -i else i) = ((i.natAbs : Nat) : Int) := by
  split <;> omega
def movI (xs ts : List Int) (k : Int) : List Int := List.zipWith (fun a b => a + k * b) xs ts
theorem prodI_cons (n : Nat) (ns : List Nat) : prodI (n :: ns) = n * prodI ns := by
  unfold prodI
  have : ∀ (ns : List Nat) (a b : Nat), ns.foldl (fun a b => a * b) (a * b) = a * ns.foldl (fun a b => a * b) b := by
    intro ns
    induction ns with
    | nil => intro a b; rfl
    | cons x r ih => intro a b; simp only [List.foldl_cons]; rw [Nat.mul_assoc, ih]
  have h := this ns n 1
  simpa using h
theorem prodI_sub : ∀ {pw : List (Nat × Nat)}, Pw pw → ∀ {ns : List Nat}, ns.Sublist (pw.map qOf) → (∀ n ∈ ns, 1 ≤ n) ∧ prodI ns ≤ mOf pw
  | [], _, ns, h => by
    obtain rfl : ns = [] := List.eq_nil_of_sublist_nil h
    exact ⟨fun n hn => absurd hn List.not_mem_nil, Nat.le_refl 1⟩
  | x :: r, hw, ns, h => by
    have q1 := (qOf_le hw List.mem_cons_self).1
    have m1 := mOf_pos hw.tail
    rw [List.map_cons] at h
    cases h with
    | cons _ h =>
      have ih := prodI_sub hw.tail h
      exact ⟨ih.1, Nat.le_trans ih.2 (Nat.le_mul_of_pos_left _ q1)⟩
    | cons_cons _ h =>
      have ih := prodI_sub hw.tail h
      refine ⟨fun n hn => ?_, ?_⟩
      · rcases List.mem_cons.mp hn with rfl | hn
        · exact q1
        · exact ih.1 n hn
      · rw [prodI_cons]
        exact Nat.mul_le_mul_left _ ih.2
theorem eqv_nil (cs : List Int) : PyData.eqv (.list (cs.map PyData.int)) (.list []) = decide (cs = []) := by
  cases cs <;> rfl
/-- one number mended at one prime -/
theorem mend {pw : List (Nat × Nat)} (hw : Pw pw) {x : Nat × Nat} (hx : x ∈ pw) {cs : List Nat} (all : ∀ c ∈ cs, x.1 ∣ c) {k : Nat} (hk : k < cs.length) :
    (¬ x.1 ∣ (cs[k] + mOf pw / qOf x) % mOf pw) ∧ ∀ y ∈ pw, y.1 ≠ x.1 → ¬ y.1 ∣ cs[k] → ¬ y.1 ∣ (cs[k] + mOf pw / qOf x) % mOf pw := by
  have md : ∀ y ∈ pw, ∀ n : Nat, y.1 ∣ n % mOf pw ↔ y.1 ∣ n := fun y hy n => Nat.dvd_mod_iff ((dvd_mOf (hw.mem hy) hw).mpr (List.mem_map_of_mem hy))
  constructor
  · rw [md x hx]
    intro d
    have d2 := (Nat.dvd_add_right (all _ (List.getElem_mem hk))).mp d
    exact (cof_dvd hw hx hx).mp d2 rfl
  · intro y hy ne nd
    rw [md y hy]
    intro d
    exact nd ((Nat.dvd_add_left ((cof_dvd hw hx hy).mpr ne)).mp d)
theorem lt_shift {a b n i : Nat} (ha : a < 2 ^ (134 * i)) (hb : b < 2 ^ 134) (e : n = i + 1) : a * b < 2 ^ (134 * n) := by
  subst e
  rw [Nat.mul_add, Nat.mul_one, Nat.pow_add]
  exact Nat.mul_lt_mul'' ha hb
theorem prodI_perm {a b : List Nat} (h : a.Perm b) : prodI a = prodI b := by
  induction h with
  | nil => rfl
  | cons x _ ih => rw [prodI_cons, prodI_cons, ih]
  | swap x y r => rw [prodI_cons, prodI_cons, prodI_cons, prodI_cons, Nat.mul_left_comm]
  | trans _ _ i1 i2 => exact i1.trans i2
theorem perm_nat {ns : List Int} {F : List Nat} (h : ns.Perm (intsN F)) : ∃ S : List Nat, ns = intsN S ∧ S.Perm F := by
  refine ⟨ns.map Int.toNat, ?_, ?_⟩
  · have : ∀ z ∈ ns, 0 ≤ z := fun z hz => by
      obtain ⟨n, _, e⟩ := List.mem_map.mp (h.mem_iff.mp hz)
      omega
    clear h
    induction ns with
    | nil => rfl
    | cons z r ih =>
      have h0 := this z List.mem_cons_self
      have := ih fun y hy => this y (List.mem_cons_of_mem _ hy)
      simp only [intsN, List.map_cons] at *
      rw [← this]
      congr 1
      omega
  · have := h.map Int.toNat
    have e : (intsN F).map Int.toNat = F := by
      unfold intsN
      rw [List.map_map]
      have : (Int.toNat ∘ fun p : Nat => (p : Int)) = id := by
        funext x
        simp
      rw [this, List.map_id]
    rw [e] at this
    exact this
/-- an ascending list within an ascending one is a part of it -/
theorem sub_of_asc : ∀ {l s : List Nat}, l.Pairwise (· < ·) → s.Pairwise (· < ·) → (∀ x ∈ s, x ∈ l) → s.Sublist l
  | [], s, _, _, h => by
    cases s with
    | nil => exact .slnil
    | cons x r => exact absurd (h x List.mem_cons_self) List.not_mem_nil
  | y :: l, [], _, _, _ => List.nil_sublist _
  | y :: l, x :: r, hl, hs, h => by
    have hl' := List.pairwise_cons.mp hl
    have hs' := List.pairwise_cons.mp hs
    rcases List.mem_cons.mp (h x List.mem_cons_self) with e | hx
    · subst e
      refine List.Sublist.cons_cons _ (sub_of_asc hl'.2 hs'.2 fun z hz => ?_)
      rcases List.mem_cons.mp (h z (List.mem_cons_of_mem _ hz)) with e | k
      · have := hs'.1 z hz
        omega
      · exact k
    · refine List.Sublist.cons _ (sub_of_asc hl'.2 hs fun z hz => ?_)
      rcases List.mem_cons.mp (h z hz) with e | k
      · subst e
        have := hl'.1 x hx
        rcases List.mem_cons.mp hz with e | k
        · omega
        · have := hs'.1 z k
          omega
      · exact k
theorem mOf_append : ∀ (pw : List (Nat × Nat)) (x : Nat × Nat), mOf (pw ++ [x]) = mOf pw * qOf x
  | [], x => by simp [mOf, qOf]
  | y :: r, x => by
    show y.1 ^ y.2 * mOf (r ++ [x]) = y.1 ^ y.2 * mOf r * qOf x
    rw [mOf_append r x, Nat.mul_assoc]
theorem prodP_map : ∀ pw : List (Nat × Nat), prodP pw = prodI (pw.map (·.1))
  | [] => rfl
  | x :: r => by
    show x.1 * prodP r = prodI (x.1 :: r.map (·.1))
    rw [prodI_cons, prodP_map r]
def SOME : List Nat := [2, 2, 3, 3, 5, 7, 11, 13, 17, 19, 23, 29]
theorem SOME_PN : ∀ p ∈ SOME, p ∈ PN := by decide
theorem dot_unit (u m : Int) : ∀ (cs xs : List Int), (dotI (cs.map fun c => (u * c) % m) xs) % m = (u * dotI cs xs) % m
  | [], xs => by
    show (0 : Int) % m = (u * dotI [] xs) % m
    rw [show dotI [] xs = 0 from rfl, Int.mul_zero]
  | c :: cs, [] => by
    show (0 : Int) % m = (u * dotI (c :: cs) []) % m
    rw [show dotI (c :: cs) [] = 0 from rfl, Int.mul_zero]
  | c :: cs, x :: xs => by
    have ih := dot_unit u m cs xs
    rw [List.map_cons, dot_cons, dot_cons, Int.mul_add, Int.add_emod, ih, ← Int.mul_assoc]
    rw [Int.mul_emod, Int.emod_emod, ← Int.mul_emod, ← Int.add_emod]
theorem dvd_unit {u m a b : Int} (h : a % m = (u * b) % m) (hb : m ∣ b) : m ∣ a := by
  have : (u * b) % m = 0 := Int.emod_eq_zero_of_dvd (Int.dvd_trans hb (Int.dvd_mul_left _ _))
  rw [this] at h
  exact Int.dvd_of_emod_eq_zero h
theorem natAbs_unit {u : Nat} {p : Nat} {c : Int} (hp : p ∈ PN) (hu : ¬ p ∣ u) (hc : ¬ (p : Int) ∣ c) : ¬ (p : Int) ∣ (u : Int) * c := by
  intro h
  have h := Int.ofNat_dvd_left.mp h
  rw [Int.natAbs_mul, Int.natAbs_natCast] at h
  rcases dvd_mul_of hp h with k | k
  · exact hu k
  · exact hc (Int.ofNat_dvd_left.mpr k)
/-- numbers below the period, no prime in all of them: a stripe with any r -/
theorem SOk.mk' {pw : List (Nat × Nat)} (hP : PerD pw) {cs : List Int} {r : Int} (l1 : 1 ≤ cs.length) (l3 : cs.length ≤ 3) (c0 : ∀ c ∈ cs, 0 ≤ c ∧ c < (mOf pw : Nat))
    (ok : ∀ x ∈ pw, ∃ c ∈ cs, ¬ (x.1 : Int) ∣ c) (r0 : 0 ≤ r ∧ r < (mOf pw : Nat)) : SOk pw cs r := ⟨hP.per, l1, l3, c0, r0, gcdL_one hP.ok ok⟩
theorem SOk.other {pw : List (Nat × Nat)} (hP : PerD pw) {cs : List Int} {r : Int} (h : SOk pw cs r) {u : Nat} (hu : ∀ x ∈ pw, ¬ x.1 ∣ u) :
    SOk pw (cs.map fun c => ((u : Int) * c) % ((mOf pw : Nat) : Int)) (((u : Int) * r) % ((mOf pw : Nat) : Int)) := by
  have hm := mOf_pos hP.ok
  have m0 : (0 : Int) < ((mOf pw : Nat) : Int) := by omega
  refine SOk.mk' hP (by simpa using h.l1) (by simpa using h.l3) ?_ ?_ (emodB _ m0)
  · intro c hc
    obtain ⟨c0, _, rfl⟩ := List.mem_map.mp hc
    exact emodB _ m0
  · intro x hx
    obtain ⟨c, hc, nd⟩ := h.free hx
    have hp := hP.ok.mem hx
    refine ⟨_, List.mem_map_of_mem hc, fun z => natAbs_unit hp (hu x hx) nd ?_⟩
    have pm : (x.1 : Int) ∣ ((mOf pw : Nat) : Int) := Int.natCast_dvd_natCast.mpr ((dvd_mOf hp hP.ok).mpr (List.mem_map_of_mem hx))
    have e := Int.emod_add_mul_ediv ((u : Int) * c) ((mOf pw : Nat) : Int)
    rw [← e]
    exact Int.dvd_add z (Int.dvd_trans pm (Int.dvd_mul_right _ _))
theorem on_other {m : Int} {u : Int} {cs xs : List Int} {r : Int} (h : (dotI cs xs - r) % m = 0) : (dotI (cs.map fun c => (u * c) % m) xs - (u * r) % m) % m = 0 := by
  rw [Int.sub_emod, dot_unit, Int.emod_emod, ← Int.sub_emod, ← Int.mul_sub]
  have d := Int.dvd_of_emod_eq_zero h
  exact Int.emod_eq_zero_of_dvd (Int.dvd_trans d (Int.dvd_mul_left _ _))
theorem on_self {m z : Int} : (z - z % m) % m = 0 := by
  rw [Int.sub_emod, Int.emod_emod, Int.sub_self]
  rfl
theorem shift_due {m z k : Int} : (z - (z % m + k) % m) % m = 0 ↔ k % m = 0 := by
  have e : (z - (z % m + k) % m) % m = (-k) % m := by
    rw [Int.sub_emod, Int.emod_emod, ← Int.sub_emod]
    have : z - (z % m + k) = (z - z % m) + -k := by omega
    rw [this, Int.add_emod, on_self, Int.zero_add, Int.emod_emod]
  rw [e]
  constructor
  · intro h
    have := Int.dvd_of_emod_eq_zero h
    exact Int.emod_eq_zero_of_dvd (Int.dvd_neg.mp this)
  · intro h
    exact Int.emod_eq_zero_of_dvd (Int.dvd_neg.mpr (Int.dvd_of_emod_eq_zero h))
theorem prodI_mOf : ∀ pw : List (Nat × Nat), prodI (pw.map qOf) = mOf pw
  | [] => rfl
  | x :: r => by
    rw [List.map_cons, prodI_cons, prodI_mOf r]
    rfl
theorem cross_of {m : Nat} {a b : List Int} (h : ∀ (i j : Nat) (x y z w : Int), j < i → a[i]? = some x → a[j]? = some y → b[i]? = some z → b[j]? = some w → (m : Int) ∣ x * w - y * z) : Cross m a b := by
  intro i j x y z w hx hy hz hw
  rcases Nat.lt_trichotomy i j with c | c | c
  · have := h j i y x w z c hy hx hw hz
    rw [show x * w - y * z = -(y * z - x * w) by omega]
    exact Int.dvd_neg.mpr this
  · subst c
    rw [hx] at hy
    rw [hz] at hw
    cases hy
    cases hw
    rw [Int.sub_self]
    exact Int.dvd_zero _
  · exact h i j x y z w c hx hy hz hw
theorem some_lt {α : Type} {xs : List α} {i : Nat} (h : i < xs.length) : ∃ x, xs[i]? = some x := ⟨_, List.getElem?_eq_getElem h⟩
theorem eqv_lst_nil (cs : List Int) : PyData.eqv (.list (cs.map PyData.int)) (.list []) = decide (cs = []) := by
  cases cs <;> rfl
theorem shaped_lst {cs : List Int} : SeqAt.shaped (.list (cs.map PyData.int)) = true := by
  have h : ∀ cs : List Int, PyData.canLayAll0 (cs.map PyData.int) = true ∧ PyData.depthAll (cs.map PyData.int) = 0 := by
    intro cs
    induction cs with
    | nil => simp [PyData.canLayAll0, PyData.depthAll]
    | cons c r ih => simp [PyData.canLayAll0, PyData.depthAll, PyData.canLay0, PyData.depth, ih.1, ih.2]
  obtain ⟨h1, h2⟩ := h cs
  simp [SeqAt.shaped, PyData.canLay0, h1, PyData.depth, h2]
theorem max_pow {p : Nat} (hp : 2 ≤ p) : ∀ n : Nat, 1 ≤ n → ∃ k n', n = p ^ k * n' ∧ ¬ p ∣ n' ∧ 1 ≤ n' := by
  intro n
  induction n using Nat.strongRecOn with
  | ind n ih =>
    intro hn
    by_cases d : p ∣ n
    · obtain ⟨m, rfl⟩ := d
      have m1 : 1 ≤ m := by
        rcases Nat.eq_zero_or_pos m with z | z
        · subst z
          omega
        · exact z
      have lt : m < p * m := by
        have : 1 * m < p * m := Nat.mul_lt_mul_of_pos_right (by omega) m1
        omega
      obtain ⟨k, n', e, nd, n1⟩ := ih m lt m1
      exact ⟨k + 1, n', by rw [e, Nat.pow_succ, Nat.mul_comm (p ^ k) p, Nat.mul_assoc], nd, n1⟩
    · exact ⟨0, n, by simp, d, hn⟩
theorem Pw.cop_tail {x : Nat × Nat} {r : List (Nat × Nat)} (hw : Pw (x :: r)) : Nat.Coprime x.1 (mOf r) := by
  have hx := hw.mem List.mem_cons_self
  exact cop_of hx fun d => (List.nodup_cons.mp hw.nodup).1 ((dvd_mOf hx hw.tail).mp d)
/-- what divides a period is a period of some of its primes -/
theorem dvd_pw : ∀ {pw : List (Nat × Nat)}, Pw pw → ∀ n : Nat, n ∣ mOf pw → ∃ pv : List (Nat × Nat), Pw pv ∧ mOf pv = n ∧ (pv.map (·.1)).Sublist (pw.map (·.1)) ∧ prodP pv ≤ prodP pw ∧ 1 ≤ prodP pw
  | [], hw, n, h => ⟨[], hw, (Nat.dvd_one.mp h).symm, List.Sublist.refl _, Nat.le_refl _, Nat.le_refl _⟩
  | x :: r, hw, n, h => by
    have hx := hw.mem List.mem_cons_self
    have x2 := PN_lt _ hx
    have hm := mOf_pos hw
    have n1 : 1 ≤ n := Nat.pos_of_dvd_of_pos h (by omega)
    obtain ⟨k, n', e, nd, n1'⟩ := max_pow x2.1 n n1
    have h' : n ∣ x.1 ^ x.2 * mOf r := h
    have d1 : n' ∣ mOf r := by
      have c : Nat.Coprime n' (x.1 ^ x.2) := (cop_pow (cop_of hx nd) _).symm
      refine c.dvd_of_dvd_mul_left (Nat.dvd_trans ?_ h')
      rw [e]
      exact Nat.dvd_mul_left _ _
    obtain ⟨pv, p1, p2, p3, p4, p5⟩ := dvd_pw hw.tail n' d1
    have pr : 1 ≤ prodP (x :: r) := Nat.mul_pos (show 0 < x.1 by omega) p5
    have le : prodP pv ≤ prodP (x :: r) := Nat.le_trans p4 (Nat.le_mul_of_pos_left _ (by omega))
    rcases Nat.eq_zero_or_pos k with z | kp
    · subst z
      refine ⟨pv, p1, by rw [p2, e]; simp, p3.cons _, le, pr⟩
    · refine ⟨(x.1, k) :: pv, ⟨?_, ?_⟩, ?_, p3.cons_cons _, Nat.mul_le_mul_left _ p4, pr⟩
      · have := p3.cons_cons x.1
        exact this.trans hw.sub
      · intro y hy
        rcases List.mem_cons.mp hy with rfl | hy
        · exact kp
        · exact p1.pos y hy
      · show x.1 ^ k * mOf pv = n
        rw [p2, e]
theorem mem_of_sub {pw pv : List (Nat × Nat)} (h : (pv.map (·.1)).Sublist (pw.map (·.1))) {y : Nat × Nat} (hy : y ∈ pv) : ∃ x ∈ pw, x.1 = y.1 := by
  have := h.subset (List.mem_map_of_mem hy)
  obtain ⟨x, hx, e⟩ := List.mem_map.mp this
  exact ⟨x, hx, e⟩
theorem PerD.dvd {pw : List (Nat × Nat)} (h : PerD pw) {n : Nat} (d : n ∣ mOf pw) : ∃ pv, PerD pv ∧ mOf pv = n ∧ (pv.map (·.1)).Sublist (pw.map (·.1)) := by
  obtain ⟨pv, p1, p2, p3, p4, _⟩ := dvd_pw h.ok n d
  refine ⟨pv, ⟨p1, Nat.le_trans p4 h.few, ?_⟩, p2, p3⟩
  rw [p2]
  exact Nat.lt_of_le_of_lt (Nat.le_of_dvd (mOf_pos h.ok) d) h.lt
theorem Per.dvd {pw : List (Nat × Nat)} (h : Per pw) {n : Nat} (d : n ∣ mOf pw) : ∃ pv, Per pv ∧ mOf pv = n ∧ (pv.map (·.1)).Sublist (pw.map (·.1)) := by
  obtain ⟨pv, p1, p2, p3, p4, _⟩ := dvd_pw h.ok n d
  refine ⟨pv, ⟨p1, Nat.le_trans p4 h.few, ?_⟩, p2, p3⟩
  rw [p2]
  exact Nat.lt_of_le_of_lt (Nat.le_of_dvd (mOf_pos h.ok) d) h.bd
theorem free_mod {pw pv : List (Nat × Nat)} (hv : Pw pv) (hs : (pv.map (·.1)).Sublist (pw.map (·.1))) {cs : List Int} (f : Free pw cs) : Free pv (cs.map fun c => c % ((mOf pv : Nat) : Int)) := by
  intro y hy
  obtain ⟨x, hx, e⟩ := mem_of_sub hs hy
  obtain ⟨c, hc, nd⟩ := f x hx
  rw [e] at nd
  exact ⟨_, List.mem_map_of_mem hc, fun z => nd ((p_emod hv hy c).mp z)⟩
/-- times a unit: the normal form stays -/
theorem nf_mul {pw : List (Nat × Nat)} (h : Pw pw) {cs : List Int} (f : Free pw cs) (r : Int) {u : Int} (nu : ∀ x ∈ pw, ¬ (x.1 : Int) ∣ u) :
    nfC pw (mulM (mOf pw) u cs) = nfC pw cs ∧ nfR pw (mulM (mOf pw) u cs) ((u * r) % ((mOf pw : Nat) : Int)) = nfR pw cs r := by
  have g := free_mul h nu f
  refine (nf_iff h (by simp [mulM]) g f).mpr ?_
  rw [← mulM_append]
  intro i j x y z w hx hy hz hw
  rw [mulM_at hz] at hx
  rw [mulM_at hw] at hy
  cases hx
  cases hy
  have e1 := Int.emod_add_mul_ediv (u * z) ((mOf pw : Nat) : Int)
  have e2 := Int.emod_add_mul_ediv (u * w) ((mOf pw : Nat) : Int)
  exact ⟨(u * w / ((mOf pw : Nat) : Int)) * z - (u * z / ((mOf pw : Nat) : Int)) * w, by grind⟩
theorem mulM_len (m : Nat) (u : Int) (cs : List Int) : (mulM m u cs).length = cs.length := List.length_map _
theorem SOk.mul {pw : List (Nat × Nat)} {cs : List Int} {r : Int} (h : SOk pw cs r) {u : Int} (nu : ∀ x ∈ pw, ¬ (x.1 : Int) ∣ u) : SOk pw (mulM (mOf pw) u cs) ((u * r) % ((mOf pw : Nat) : Int)) := by
  have hm := mOf_pos h.per.ok
  exact SOk.mk2 h.per (by rw [mulM_len]; exact h.l1) (by rw [mulM_len]; exact h.l3) (fun c hc => mem_mulM hm hc) (free_mul h.per.ok nu h.fr) (emodB _ (by omega))
/-- -1, by the period, is a unit -/
theorem unit_less {pw : List (Nat × Nat)} (h : Pw pw) : ∀ x ∈ pw, ¬ (x.1 : Int) ∣ ((mOf pw : Nat) : Int) - 1 := by
  intro x hx d
  have pm : (x.1 : Int) ∣ ((mOf pw : Nat) : Int) := p_dvd h hx (Int.natCast_dvd_natCast.mpr (part_dvd_mOf h hx))
  have := Int.dvd_sub pm d
  rw [show ((mOf pw : Nat) : Int) - (((mOf pw : Nat) : Int) - 1) = 1 by omega] at this
  exact p_one (h.mem hx) this
/-- the greatest integer that divides m and all numbers -/
def gN (m : Nat) (as : List Int) : Nat := (gcdL (m : Int) as).natAbs
theorem gN_eq (m : Nat) (as : List Int) : gcdL (m : Int) as = ((gN m as : Nat) : Int) := by
  have := gcdL_nonneg as (m : Int) (Int.natCast_nonneg _)
  unfold gN
  omega
theorem gN_dvd (m : Nat) (as : List Int) : gN m as ∣ m := by
  have := (gcdL_dvd as (m : Int)).1
  rwa [Int.natAbs_natCast] at this
theorem gN_mem {m : Nat} {as : List Int} {a : Int} (h : a ∈ as) : ((gN m as : Nat) : Int) ∣ a := Int.ofNat_dvd_left.mpr ((gcdL_dvd as (m : Int)).2 a h)
theorem gN_pos {m : Nat} (h : 1 ≤ m) (as : List Int) : 1 ≤ gN m as := Nat.pos_of_dvd_of_pos (gN_dvd m as) h
theorem gN_max {m : Nat} {as : List Int} {p : Nat} (h : p ∣ m) (ha : ∀ a ∈ as, (p : Int) ∣ a) : p ∣ gN m as :=
  gcdL_mem as (m : Int) p (by rw [Int.natAbs_natCast]; exact h) fun a h => Int.ofNat_dvd_left.mp (ha a h)
/-- numbers that are those of another row times u, by m -/
structure Alk (m : Nat) (u : Int) (as bs : List Int) : Prop where
  len : as.length = bs.length
  at_ : ∀ (i : Nat) (a b : Int), as[i]? = some a → bs[i]? = some b → (m : Int) ∣ b - u * a
theorem Alk.mem {m : Nat} {u : Int} {as bs : List Int} (h : Alk m u as bs) {b : Int} (hb : b ∈ bs) : ∃ a ∈ as, (m : Int) ∣ b - u * a := by
  obtain ⟨i, hi, e⟩ := List.mem_iff_getElem.mp hb
  have hi' : i < as.length := by rw [h.len]; exact hi
  exact ⟨as[i], List.getElem_mem hi', h.at_ i _ _ (List.getElem?_eq_getElem hi') (by rw [List.getElem?_eq_getElem hi, e])⟩
theorem Alk.mem' {m : Nat} {u : Int} {as bs : List Int} (h : Alk m u as bs) {a : Int} (ha : a ∈ as) : ∃ b ∈ bs, (m : Int) ∣ b - u * a := by
  obtain ⟨i, hi, e⟩ := List.mem_iff_getElem.mp ha
  have hi' : i < bs.length := by rw [← h.len]; exact hi
  exact ⟨bs[i], List.getElem_mem hi', h.at_ i _ _ (by rw [List.getElem?_eq_getElem hi, e]) (List.getElem?_eq_getElem hi')⟩
theorem unit_dvd {m : Nat} {u : Int} (hc : Nat.Coprime u.natAbs m) {p : Nat} (h : p ∣ m) {a : Int} (d : (p : Int) ∣ u * a) : (p : Int) ∣ a := by
  have c : Nat.Coprime p u.natAbs := (Nat.Coprime.coprime_dvd_right h hc).symm
  rw [Int.ofNat_dvd_left, Int.natAbs_mul] at d
  exact Int.ofNat_dvd_left.mpr (c.dvd_of_dvd_mul_left d)
theorem Alk.gN_eq {m : Nat} {u : Int} {as bs : List Int} (h : Alk m u as bs) (hc : Nat.Coprime u.natAbs m) : gN m bs = gN m as := by
  refine Nat.dvd_antisymm (gN_max (gN_dvd m bs) fun a ha => ?_) (gN_max (gN_dvd m as) fun b hb => ?_)
  · obtain ⟨b, hb, d⟩ := h.mem' ha
    have d1 : ((gN m bs : Nat) : Int) ∣ b - u * a := Int.dvd_trans (Int.natCast_dvd_natCast.mpr (gN_dvd m bs)) d
    have d2 := Int.dvd_sub (gN_mem (m := m) hb) d1
    rw [show b - (b - u * a) = u * a by omega] at d2
    exact unit_dvd hc (gN_dvd m bs) d2
  · obtain ⟨a, ha, d⟩ := h.mem hb
    have d1 : ((gN m as : Nat) : Int) ∣ b - u * a := Int.dvd_trans (Int.natCast_dvd_natCast.mpr (gN_dvd m as)) d
    have d2 := Int.dvd_add d1 (Int.dvd_trans (gN_mem (m := m) ha) (Int.dvd_mul_left u a))
    rw [show b - u * a + u * a = b by omega] at d2
    exact d2
theorem alk_dvd {m g : Nat} {u r s : Int} (hc : Nat.Coprime u.natAbs m) (hg : g ∣ m) (d : (m : Int) ∣ s - u * r) : (g : Int) ∣ s ↔ (g : Int) ∣ r := by
  have d1 : (g : Int) ∣ s - u * r := Int.dvd_trans (Int.natCast_dvd_natCast.mpr hg) d
  constructor
  · intro h
    have d2 := Int.dvd_sub h d1
    rw [show s - (s - u * r) = u * r by omega] at d2
    exact unit_dvd hc hg d2
  · intro h
    have d2 := Int.dvd_add d1 (Int.dvd_trans h (Int.dvd_mul_left u r))
    rw [show s - u * r + u * r = s by omega] at d2
    exact d2
/-- all by g -/
def byG (g : Nat) (as : List Int) : List Int := as.map fun a => a / (g : Int)
theorem byG_len (g : Nat) (as : List Int) : (byG g as).length = as.length := List.length_map _
theorem byG_at {g : Nat} {as : List Int} {i : Nat} {x : Int} (h : (byG g as)[i]? = some x) : ∃ a, as[i]? = some a ∧ x = a / (g : Int) := by
  unfold byG at h
  rw [List.getElem?_map] at h
  obtain ⟨a, ha, e⟩ := Option.map_eq_some_iff.mp h
  exact ⟨a, ha, e.symm⟩
theorem byG_bd {g : Nat} {b : Nat} {a : Int} (h : Bd b a) : Bd b (a / (g : Int)) := by
  unfold Bd at *
  exact Nat.lt_of_le_of_lt (Int.natAbs_ediv_le_natAbs a (g : Int)) h
/-- the period that is left when g is taken out -/
structure ByG (pw pv : List (Nat × Nat)) (as : List Int) : Prop where
  w : Pw pw
  v : Pw pv
  eq : gN (mOf pw) as * mOf pv = mOf pw
theorem ByG.free {pw pv : List (Nat × Nat)} {as : List Int} (h : ByG pw pv as) : Free pv (byG (gN (mOf pw) as) as) := by
  intro x hx
  refine Classical.byContradiction fun no => ?_
  have hp := h.v.mem hx
  have p2 := PN_lt _ hp
  have hm := mOf_pos h.w
  have g1 := gN_pos hm as
  have xv : x.1 ∣ mOf pv := (dvd_mOf hp h.v).mpr (List.mem_map_of_mem hx)
  have d : gN (mOf pw) as * x.1 ∣ gN (mOf pw) as := by
    refine gN_max ?_ fun a ha => ?_
    · have := Nat.mul_dvd_mul_left (gN (mOf pw) as) xv
      rwa [h.eq] at this
    · have hd : (x.1 : Int) ∣ a / ((gN (mOf pw) as : Nat) : Int) := Classical.byContradiction fun nd => no ⟨_, List.mem_map_of_mem ha, nd⟩
      have := Int.mul_dvd_mul_left ((gN (mOf pw) as : Nat) : Int) hd
      rw [Int.mul_ediv_cancel' (gN_mem ha)] at this
      rwa [Int.natCast_mul]
  have := Nat.le_of_dvd (by omega) d
  have : gN (mOf pw) as * 2 ≤ gN (mOf pw) as * x.1 := Nat.mul_le_mul_left _ p2.1
  omega
theorem ByG.n_eq {pw pv : List (Nat × Nat)} {as : List Int} (h : ByG pw pv as) : mOf pw / gN (mOf pw) as = mOf pv := by
  have g1 := gN_pos (mOf_pos h.w) as
  exact Nat.div_eq_of_eq_mul_right (by omega) h.eq.symm
theorem ByG.int {pw pv : List (Nat × Nat)} {as : List Int} (h : ByG pw pv as) : ((mOf pw : Nat) : Int) = ((gN (mOf pw) as : Nat) : Int) * ((mOf pv : Nat) : Int) := by
  rw [← Int.natCast_mul, h.eq]
theorem cancel_g {g n : Int} (h : 0 < g) {z : Int} : g * n ∣ g * z ↔ n ∣ z := Int.mul_dvd_mul_iff_left (by omega)
/-- told by numbers alike, it is the same normal form -/
theorem ByG.alk {pw pv : List (Nat × Nat)} {as bs : List Int} {u r s : Int} (h : ByG pw pv as) (h' : Alk (mOf pw) u as bs) (hc : Nat.Coprime u.natAbs (mOf pw)) (d : ((mOf pw : Nat) : Int) ∣ s - u * r) (hr : ((gN (mOf pw) as : Nat) : Int) ∣ r) :
    ByG pw pv bs ∧ nfC pv (byG (gN (mOf pw) bs) bs) = nfC pv (byG (gN (mOf pw) as) as) ∧ nfR pv (byG (gN (mOf pw) bs) bs) (s / ((gN (mOf pw) bs : Nat) : Int)) = nfR pv (byG (gN (mOf pw) as) as) (r / ((gN (mOf pw) as : Nat) : Int)) := by
  have e := h'.gN_eq hc
  have hb : ByG pw pv bs := ⟨h.w, h.v, by rw [e]; exact h.eq⟩
  refine ⟨hb, ?_⟩
  have hs := (alk_dvd hc (gN_dvd (mOf pw) as) d).mpr hr
  refine (nf_iff h.v (by rw [byG_len, byG_len]; exact h'.len.symm) hb.free h.free).mpr ?_
  have g0 : (0 : Int) < ((gN (mOf pw) as : Nat) : Int) := by have := gN_pos (mOf_pos h.w) as; omega
  -- each number is the other's times u by n
  have key : ∀ (i : Nat) (x z : Int), (byG (gN (mOf pw) bs) bs ++ [s / ((gN (mOf pw) bs : Nat) : Int)])[i]? = some x → (byG (gN (mOf pw) as) as ++ [r / ((gN (mOf pw) as : Nat) : Int)])[i]? = some z → ((mOf pv : Nat) : Int) ∣ x - u * z := by
    intro i x z hx hz
    have fin : ∀ a b : Int, ((gN (mOf pw) as : Nat) : Int) ∣ a → ((gN (mOf pw) as : Nat) : Int) ∣ b → ((mOf pw : Nat) : Int) ∣ b - u * a → ((mOf pv : Nat) : Int) ∣ b / ((gN (mOf pw) as : Nat) : Int) - u * (a / ((gN (mOf pw) as : Nat) : Int)) := by
      intro a b ha hb hd
      obtain ⟨a', rfl⟩ := ha
      obtain ⟨b', rfl⟩ := hb
      rw [Int.mul_ediv_cancel_left _ (by omega), Int.mul_ediv_cancel_left _ (by omega)]
      rw [h.int, show ((gN (mOf pw) as : Nat) : Int) * b' - u * (((gN (mOf pw) as : Nat) : Int) * a') = ((gN (mOf pw) as : Nat) : Int) * (b' - u * a') by grind] at hd
      exact (cancel_g g0).mp hd
    rw [e] at hx
    rcases Nat.lt_or_ge i as.length with c | c
    · rw [List.getElem?_append_left (by rw [byG_len, ← h'.len]; exact c)] at hx
      rw [List.getElem?_append_left (by rw [byG_len]; exact c)] at hz
      obtain ⟨b, eb, rfl⟩ := byG_at hx
      obtain ⟨a, ea, rfl⟩ := byG_at hz
      exact fin a b (gN_mem (List.mem_of_getElem? ea)) (by rw [← e]; exact gN_mem (List.mem_of_getElem? eb)) (h'.at_ i a b ea eb)
    · have e1 : i = as.length := by
        have := (List.getElem?_eq_some_iff.mp hz).1
        rw [List.length_append, byG_len, List.length_singleton] at this
        omega
      rw [List.getElem?_append_right (by rw [byG_len, ← h'.len]; exact c), byG_len, ← h'.len, e1, Nat.sub_self] at hx
      rw [List.getElem?_append_right (by rw [byG_len]; exact c), byG_len, e1, Nat.sub_self] at hz
      cases hx
      cases hz
      exact fin r s hr hs d
  intro i j x y z w hx hy hz hw
  obtain ⟨k1, e1⟩ := key i x z hx hz
  obtain ⟨k2, e2⟩ := key j y w hy hw
  exact ⟨k1 * w - k2 * z, by grind⟩
/-- made less by the period: the same normal form -/
theorem nf_mod {pv : List (Nat × Nat)} (hv : Pw pv) {cs : List Int} (f : Free pv cs) (r : Int) :
    Free pv (cs.map fun c => c % ((mOf pv : Nat) : Int)) ∧ nfC pv (cs.map fun c => c % ((mOf pv : Nat) : Int)) = nfC pv cs ∧ nfR pv (cs.map fun c => c % ((mOf pv : Nat) : Int)) (r % ((mOf pv : Nat) : Int)) = nfR pv cs r := by
  have e : (cs.map fun c => c % ((mOf pv : Nat) : Int)) = mulM (mOf pv) 1 cs := by
    unfold mulM
    refine List.map_congr_left fun c _ => ?_
    rw [Int.one_mul]
  have nu : ∀ x ∈ pv, ¬ (x.1 : Int) ∣ 1 := fun x hx => p_one (hv.mem hx)
  have h := nf_mul hv f r nu
  rw [Int.one_mul] at h
  rw [e]
  exact ⟨free_mul hv nu f, h⟩
/-- the cells -/
theorem nf_cells {pv : List (Nat × Nat)} (hv : Pw pv) {cs : List Int} (f : Free pv cs) (r : Int) (ys : List Int) : ((mOf pv : Nat) : Int) ∣ dotI (nfC pv cs) ys - nfR pv cs r ↔ ((mOf pv : Nat) : Int) ∣ dotI cs ys - r := by
  have hu := nfU_is hv f
  have e : (dotI (nfC pv cs) ys - nfR pv cs r) % ((mOf pv : Nat) : Int) = (nfU pv cs * (dotI cs ys - r)) % ((mOf pv : Nat) : Int) := by
    unfold nfC nfR mulM
    rw [Int.sub_emod, dot_unit, Int.emod_emod, ← Int.sub_emod, ← Int.mul_sub]
  rw [Int.dvd_iff_emod_eq_zero, e, ← Int.dvd_iff_emod_eq_zero]
  exact ⟨fun d => unit_drop hv (fun x hx => hu.unit hv f hx) d, fun d => Int.dvd_trans d (Int.dvd_mul_left _ _)⟩
theorem dot_byG {g : Int} (g0 : 0 < g) : ∀ (as ys : List Int), (∀ a ∈ as, g ∣ a) → dotI as ys = g * dotI (as.map fun a => a / g) ys
  | [], ys, _ => by
    show (0 : Int) = g * 0
    rw [Int.mul_zero]
  | a :: as, [], _ => by
    show (0 : Int) = g * 0
    rw [Int.mul_zero]
  | a :: as, y :: ys, h => by
    have ih := dot_byG g0 as ys fun b hb => h b (List.mem_cons_of_mem _ hb)
    rw [List.map_cons, dot_cons, dot_cons, ih, Int.mul_add, ← Int.mul_assoc, Int.mul_ediv_cancel' (h a List.mem_cons_self)]
theorem ByG.cells {pw pv : List (Nat × Nat)} {as : List Int} {r : Int} (h : ByG pw pv as) (hr : ((gN (mOf pw) as : Nat) : Int) ∣ r) (ys : List Int) :
    ((mOf pv : Nat) : Int) ∣ dotI (nfC pv (byG (gN (mOf pw) as) as)) ys - nfR pv (byG (gN (mOf pw) as) as) (r / ((gN (mOf pw) as : Nat) : Int)) ↔ ((mOf pw : Nat) : Int) ∣ dotI as ys - r := by
  have g0 : (0 : Int) < ((gN (mOf pw) as : Nat) : Int) := by have := gN_pos (mOf_pos h.w) as; omega
  rw [nf_cells h.v h.free, dot_byG g0 as ys fun a ha => gN_mem ha, h.int]
  obtain ⟨r', rfl⟩ := hr
  rw [Int.mul_ediv_cancel_left _ (by omega), ← Int.mul_sub]
  exact (cancel_g g0).symm
theorem part_gcd {pw pv : List (Nat × Nat)} (h : Pw pw) (hv : Pw pv) (d : mOf pv ∣ mOf pw) {x y : Nat × Nat} (hx : x ∈ pw) (hy : y ∈ pv) (e : y.1 = x.1) : Nat.gcd (qOf x) (mOf pv) = qOf y := by
  have hp := h.mem hx
  have p2 := PN_lt _ hp
  have dy := part_dvd_mOf hv hy
  have cx : Nat.Coprime x.1 (mOf pw / qOf x) := cop_of hp fun z => ((cof_dvd h hx hx).mp z) rfl
  have cy : Nat.Coprime x.1 (mOf pv / qOf y) := cop_of hp fun z => by
    rw [← e] at z
    exact ((cof_dvd hv hy hy).mp z) rfl
  have q1 : qOf y = x.1 ^ y.2 := by unfold qOf; rw [e]
  have le : x.1 ^ y.2 ∣ x.1 ^ x.2 := by
    have dd : x.1 ^ y.2 ∣ mOf pw := by rw [← q1]; exact Nat.dvd_trans dy d
    rw [← Nat.mul_div_cancel' (part_dvd_mOf h hx)] at dd
    exact Nat.Coprime.dvd_of_dvd_mul_right (cop_pow cx _) dd
  obtain ⟨k, ek⟩ := le
  have en : mOf pv = x.1 ^ y.2 * (mOf pv / qOf y) := by
    rw [← q1]
    exact (Nat.mul_div_cancel' dy).symm
  have ck : Nat.Coprime k (mOf pv / qOf y) := by
    have : k ∣ x.1 ^ x.2 := ⟨x.1 ^ y.2, by rw [ek, Nat.mul_comm]⟩
    exact Nat.Coprime.coprime_dvd_left this (cop_pow cy _)
  have e2 : qOf x = x.1 ^ y.2 * k := ek
  rw [e2, q1]
  generalize mOf pv / qOf y = c at en ck
  rw [en, Nat.gcd_mul_left, ck, Nat.mul_one]
theorem eq_of_keys {α β : Type} : ∀ {l s : List (α × β)}, l.map (·.1) = s.map (·.1) → (∀ a ∈ l, ∀ b ∈ s, a.1 = b.1 → a = b) → l = s
  | [], [], _, _ => rfl
  | [], b :: s, h, _ => by cases h
  | a :: l, [], h, _ => by cases h
  | a :: l, b :: s, h, q => by
    rw [List.map_cons, List.map_cons] at h
    obtain ⟨h1, h2⟩ := List.cons.inj h
    rw [q a List.mem_cons_self b List.mem_cons_self h1, eq_of_keys h2 fun x hx y hy => q x (List.mem_cons_of_mem _ hx) y (List.mem_cons_of_mem _ hy)]
theorem parts_of_div {pw pv : List (Nat × Nat)} (h : Pw pw) (hv : Pw pv) (d : mOf pv ∣ mOf pw) :
    ((pw.filter fun x => decide (x.1 ∣ mOf pv)).map fun x => (x.1, Nat.gcd (qOf x) (mOf pv))) = pv.map fun y => (y.1, qOf y) := by
  refine eq_of_keys ?_ ?_
  · rw [List.map_map, List.map_map]
    show (pw.filter fun x => decide (x.1 ∣ mOf pv)).map (·.1) = pv.map (·.1)
    rw [← primes_mOf hv, show (pw.filter fun x => decide (x.1 ∣ mOf pv)).map (·.1) = (pw.map (·.1)).filter (fun p => decide (p ∣ mOf pv)) from (List.filter_map (p := fun p => decide (p ∣ mOf pv)) (f := fun x : Nat × Nat => x.1) (l := pw)).symm, ← primes_mOf h, List.filter_filter]
    refine List.filter_congr fun p _ => ?_
    by_cases c : p ∣ mOf pv
    · have := Nat.dvd_trans c d
      simp [c, this]
    · simp [c]
  · intro a ha b hb e
    obtain ⟨x, hx, rfl⟩ := List.mem_map.mp ha
    obtain ⟨y, hy, rfl⟩ := List.mem_map.mp hb
    have hx' := (List.mem_filter.mp hx).1
    have e : x.1 = y.1 := e
    rw [part_gcd h hv d hx' hy e.symm, e]
theorem gdvd {g : Nat} {r : Int} : (g : Int) ∣ r ↔ r % (g : Int) = 0 := Int.dvd_iff_emod_eq_zero
theorem nat_div (m g : Nat) : ((m : Nat) : Int) / ((g : Nat) : Int) = ((m / g : Nat) : Int) := (Int.natCast_ediv m g).symm
/-- a stripe's three -/
structure Sr where
  m : Nat
  c : List Int
  r : Int
  deriving DecidableEq
abbrev Sr.D (s : Sr) : PyData := strD s.m s.c s.r
def numsK (cs : List Int) : List NK := cs.map PySem.NestedKey.num
def Sr.K (s : Sr) : NK := .tup [.num s.m, .tup (numsK s.c), .num s.r]
theorem datas_nums : ∀ cs : List Int, PySem.NestedKey.datas (numsK cs) = cs.map PyData.int
  | [] => rfl
  | c :: cs => by
    show PyData.int c :: PySem.NestedKey.datas (numsK cs) = _
    rw [datas_nums cs]
    rfl
theorem Sr.K_data (s : Sr) : s.K.data = s.D := by
  show PyData.tuple [.int s.m, .tuple (PySem.NestedKey.datas (numsK s.c)), .int s.r] = _
  rw [datas_nums]
  rfl
theorem depth_nums : ∀ cs : List Int, PySem.NestedKey.depthAll (numsK cs) = 0
  | [] => rfl
  | c :: cs => by
    show max 0 (PySem.NestedKey.depthAll (numsK cs)) = 0
    rw [depth_nums cs]
    rfl
theorem Sr.K_depth (s : Sr) : s.K.depth ≤ 8 := by
  show max 0 (max (PySem.NestedKey.depthAll (numsK s.c) + 1) (max 0 0)) + 1 ≤ 8
  rw [depth_nums]
  decide
theorem numsK_inj : ∀ {a b : List Int}, numsK a = numsK b → a = b
  | [], [], _ => rfl
  | [], _ :: _, h => by cases h
  | _ :: _, [], h => by cases h
  | x :: a, y :: b, h => by
    have h' : PySem.NestedKey.num x :: numsK a = .num y :: numsK b := h
    obtain ⟨h1, h2⟩ := List.cons.inj h'
    rw [numsK_inj h2]
    cases h1
    rfl
theorem Sr.K_inj {a b : Sr} (h : a.K = b.K) : a = b := by
  obtain ⟨m, c, r⟩ := a
  obtain ⟨n, d, s⟩ := b
  have h' := PySem.NestedKey.tup.inj h
  obtain ⟨h1, h2⟩ := List.cons.inj h'
  obtain ⟨h3, h4⟩ := List.cons.inj h2
  obtain ⟨h5, _⟩ := List.cons.inj h4
  have e1 := PySem.NestedKey.num.inj h1
  have e2 := numsK_inj (PySem.NestedKey.tup.inj h3)
  have e3 := PySem.NestedKey.num.inj h5
  simp only at e1 e2 e3
  have e1 : m = n := by omega
  rw [e1, e2, e3]
theorem Sr.D_inj {a b : Sr} : a.D = b.D ↔ a = b := by
  refine ⟨fun h => ?_, fun h => by rw [h]⟩
  obtain ⟨m, c, r⟩ := a
  obtain ⟨n, d, s⟩ := b
  obtain ⟨h1, h2, h3⟩ := strD_inj.mp h
  simp only at h1 h2 h3
  rw [h1, h2, h3]
open PySem.W in
theorem alike_ints2 (xs ys : List Int) : alikeAll (xs.map PyData.int) (ys.map PyData.int) = true := alike_ints xs ys
open PySem.W in
theorem Sr.alike (a b : Sr) : alike a.D b.D = true := by
  show alikeAll [.int a.m, .tuple (a.c.map PyData.int), .int a.r] [.int b.m, .tuple (b.c.map PyData.int), .int b.r] = true
  simp [alikeAll, PySem.W.alike, alike_ints]
/-- a < b, as Python has it -/
def srLt (a b : Sr) : Bool := PySem.W.dataLt a.D b.D
theorem srLt_irrefl (a : Sr) : srLt a a = false := lex_irrefl _
theorem srLt_trans {a b c : Sr} (h1 : srLt a b = true) (h2 : srLt b c = true) : srLt a c = true := lex_trans _ _ _ h1 h2
open PySem.W in
theorem toks_ne {x y : PyData} (h : alike x y = true) (e : PyData.eqv x y = false) : keyToks x ≠ keyToks y := by
  intro z
  have q := (toks_eqv x y h).2 e [] [Sum.inl 0]
  rw [z] at q
  rw [List.append_nil, lex_irrefl] at q
  have : lexLt itemOrd (keyToks y ++ []) (keyToks y ++ [Sum.inl 0]) = lexLt itemOrd [] [Sum.inl 0] := lex_pre _ _ _
  rw [List.append_nil] at this
  rw [this] at q
  exact Bool.noConfusion q
theorem srLt_total {a b : Sr} (h : a ≠ b) (h1 : srLt a b = false) : srLt b a = true := by
  cases h2 : srLt b a with
  | true => rfl
  | false =>
    have e := lex_total _ _ h1 h2
    refine absurd e (toks_ne (Sr.alike a b) ?_)
    cases q : PyData.eqv a.D b.D with
    | false => rfl
    | true => exact absurd (Sr.D_inj.mp ((eqv_eq (strD_noBool _ _ _) (strD_noBool _ _ _)).mp q)) h
theorem srLt_asymm {a b : Sr} (h : srLt a b = true) : srLt b a = false := by
  cases h2 : srLt b a with
  | false => rfl
  | true =>
    have := srLt_trans h h2
    rw [srLt_irrefl] at this
    exact Bool.noConfusion this
theorem srLt_ne {a b : Sr} (h : srLt a b = true) : a ≠ b := by
  rintro rfl
  rw [srLt_irrefl] at h
  exact Bool.noConfusion h
abbrev Hs := List (Sr × Int)
def prD (x : Sr × Int) : PyData := .tuple [x.1.D, .int x.2]
theorem paired_len {α β : Type} {F : α → β → Prop} {l : List α} {m : List β} (h : Paired F l m) : l.length = m.length := Paired.length h
theorem paired_at {α β : Type} {F : α → β → Prop} {l : List α} {m : List β} (h : Paired F l m) {i : Nat} {a : α} (e : l[i]? = some a) : ∃ b, m[i]? = some b ∧ F a b := L2.paired_get h e
theorem paired_at' {α β : Type} {F : α → β → Prop} : ∀ {l : List α} {m : List β}, Paired F l m → ∀ {i : Nat} {b : β}, m[i]? = some b → ∃ a, l[i]? = some a ∧ F a b
  | _, _, .nil, i, b, e => by simp at e
  | _, _, .cons r t, 0, b, e => by
    simp only [List.getElem?_cons_zero, Option.some.injEq] at e
    subst e
    exact ⟨_, rfl, r⟩
  | _, _, .cons r t, i + 1, b, e => by
    simp only [List.getElem?_cons_succ] at e
    obtain ⟨a, h1, h2⟩ := paired_at' t e
    exact ⟨a, by simpa using h1, h2⟩
def hsD (hs : Hs) : PyData := .tuple (hs.map prD)
/-- a stripe of breadth d -/
structure SrOk (d : Nat) (s : Sr) : Prop where
  ex : ∃ pw, mOf pw = s.m ∧ SOk pw s.c s.r
  len : s.c.length = d
/-- a heap of breadth d: stripes ascend, tints are not 0 -/
structure HsOk (d : Nat) (hs : Hs) : Prop where
  sr : ∀ x ∈ hs, SrOk d x.1
  nz : ∀ x ∈ hs, x.2 ≠ 0
  asc : (hs.map (·.1)).Pairwise fun a b => srLt a b = true
theorem Paired.take_ {α β : Type} {F : α → β → Prop} {l : List α} {m : List β} (h : Paired F l m) : l.length = m.length := Paired.length h
theorem asc_at {hs : Hs} {d i : Nat} {x y : Sr × Int} (h : HsOk d hs) (hx : hs[i]? = some x) (hy : hs[i + 1]? = some y) : srLt x.1 y.1 = true := by
  have p := h.asc
  have h1 : (hs.map (·.1))[i]? = some x.1 := by rw [List.getElem?_map, hx]; rfl
  have h2 : (hs.map (·.1))[i + 1]? = some y.1 := by rw [List.getElem?_map, hy]; rfl
  obtain ⟨l1, e1⟩ := List.getElem?_eq_some_iff.mp h1
  obtain ⟨l2, e2⟩ := List.getElem?_eq_some_iff.mp h2
  have := List.pairwise_iff_getElem.mp p i (i + 1) l1 l2 (Nat.lt_succ_self i)
  rw [e1, e2] at this
  exact this
def onS (s : Sr) (ys : List Int) : Bool := decide ((dotI s.c ys - s.r) % (s.m : Int) = 0)
def tintL (hs : Hs) (ys : List Int) : List Int := (hs.filter fun x => onS x.1 ys).map (·.2)
def tintOf (hs : Hs) (ys : List Int) : Int := (tintL hs ys).sum
theorem tintL_take {hs : Hs} {ys : List Int} {i : Nat} {x : Sr × Int} (h : hs[i]? = some x) : tintL (hs.take (i + 1)) ys = if onS x.1 ys = true then tintL (hs.take i) ys ++ [x.2] else tintL (hs.take i) ys := by
  unfold tintL
  rw [List.take_add_one, h, List.filter_append, List.map_append]
  by_cases c : onS x.1 ys = true <;> simp [c]
/-- what a table holds -/
def getH (hs : Hs) (s : Sr) : Option Int := (hs.find? fun x => decide (x.1 = s)).map (·.2)
def putH (hs : Hs) (s : Sr) (t : Int) : Hs := if (getH hs s).isSome then hs.map (fun x => if x.1 = s then (x.1, t) else x) else hs ++ [(s, t)]
theorem getH_none {hs : Hs} {s : Sr} : getH hs s = none ↔ s ∉ hs.map (·.1) := by
  unfold getH
  rw [Option.map_eq_none_iff, List.find?_eq_none]
  constructor
  · intro h hm
    obtain ⟨x, hx, e⟩ := List.mem_map.mp hm
    exact h x hx (decide_eq_true e)
  · intro h x hx e
    exact h (List.mem_map.mpr ⟨x, hx, of_decide_eq_true e⟩)
theorem putH_new {hs : Hs} {s : Sr} {t : Int} (h : getH hs s = none) : putH hs s t = hs ++ [(s, t)] := by
  unfold putH
  rw [h]
  rfl
theorem putH_old {hs : Hs} {s : Sr} {t u : Int} (h : getH hs s = some u) : putH hs s t = hs.map (fun x => if x.1 = s then (x.1, t) else x) := by
  unfold putH
  rw [h]
  rfl
theorem putH_keys (hs : Hs) (s : Sr) (t : Int) : (putH hs s t).map (·.1) = if (getH hs s).isSome then hs.map (·.1) else hs.map (·.1) ++ [s] := by
  unfold putH
  split
  · rw [List.map_map]
    refine List.map_congr_left fun x _ => ?_
    show (if x.1 = s then (x.1, t) else x).1 = x.1
    split <;> rfl
  · rw [List.map_append]
    rfl
theorem putH_nodup {hs : Hs} (h : (hs.map (·.1)).Nodup) (s : Sr) (t : Int) : ((putH hs s t).map (·.1)).Nodup := by
  rw [putH_keys]
  split
  · exact h
  · next c =>
    have n : getH hs s = none := by
      cases e : getH hs s with
      | none => rfl
      | some u => rw [e] at c; exact absurd rfl c
    exact L2.nd_snoc h (getH_none.mp n)
theorem getH_at {hs : Hs} (nd : (hs.map (·.1)).Nodup) {x : Sr × Int} (h : x ∈ hs) : getH hs x.1 = some x.2 := by
  induction hs with
  | nil => exact absurd h List.not_mem_nil
  | cons y r ih =>
    rw [List.map_cons, List.nodup_cons] at nd
    unfold getH
    rcases List.mem_cons.mp h with rfl | h
    · rw [List.find?_cons, decide_eq_true rfl]
      rfl
    · have ne : ¬ y.1 = x.1 := fun e => nd.1 (e ▸ List.mem_map_of_mem h)
      rw [List.find?_cons, decide_eq_false ne]
      exact ih nd.2 h
theorem prD_lt {x y : Sr × Int} (h : x.1 ≠ y.1) : PySem.W.dataLt (prD x) (prD y) = srLt x.1 y.1 := by
  unfold prD
  rw [PySem.W.dataLt_pair (Sr.alike _ _) (by simp [PySem.W.alike]), if_neg]
  · rfl
  · intro e
    exact h (Sr.D_inj.mp ((eqv_eq (strD_noBool _ _ _) (strD_noBool _ _ _)).mp e))
/-- pairs sorted as Python does it -/
def prLe (x y : Sr × Int) : Bool := PySem.W.dataLe false prD x y
def sortHs (hs : Hs) : Hs := hs.mergeSort prLe
theorem sortHs_perm (hs : Hs) : (sortHs hs).Perm hs := List.mergeSort_perm _ _
theorem prLe_total : PySem.W.TotalLe prLe := PySem.W.sortLe_total _ false _
theorem sortHs_asc {hs : Hs} (nd : (hs.map (·.1)).Nodup) : ((sortHs hs).map (·.1)).Pairwise fun a b => srLt a b = true := by
  have p : (sortHs hs).Pairwise fun a b => prLe a b = true := PySem.W.sort_pairwise prLe_total hs
  have nd2 : ((sortHs hs).map (·.1)).Nodup := ((sortHs_perm hs).map (·.1)).nodup_iff.mpr nd
  rw [List.pairwise_map]
  have q : (sortHs hs).Pairwise fun a b => a.1 ≠ b.1 := List.pairwise_map.mp nd2
  refine (p.and q).imp fun {x y} h => ?_
  obtain ⟨h1, h2⟩ := h
  have h1 : (!PySem.W.dataLt (prD y) (prD x)) = true := h1
  rw [prD_lt (Ne.symm h2), Bool.not_eq_true'] at h1
  exact srLt_total (Ne.symm h2) h1
theorem prD_alike (x y : Sr × Int) : PySem.W.alike (prD x) (prD y) = true := by
  show PySem.W.alikeAll [x.1.D, .int x.2] [y.1.D, .int y.2] = true
  simp [PySem.W.alikeAll, Sr.alike, PySem.W.alike]
theorem prD_depth (x : Sr × Int) : (prD x).depth ≤ 40 := by
  have : PyData.depthAll (x.1.c.map PyData.int) = 0 := PySem.W.depth_ints _
  simp [prD, Sr.D, strD, PyData.depth, PyData.depthAll, this]
theorem sum_perm {a b : List Int} (h : a.Perm b) : a.sum = b.sum := by
  induction h with
  | nil => rfl
  | cons x _ ih => rw [List.sum_cons, List.sum_cons, ih]
  | swap x y r => rw [List.sum_cons, List.sum_cons, List.sum_cons, List.sum_cons]; omega
  | trans _ _ i1 i2 => exact i1.trans i2
theorem tint_perm {a b : Hs} (h : a.Perm b) (ys : List Int) : tintOf a ys = tintOf b ys := sum_perm ((h.filter _).map _)
theorem tint_nil (ys : List Int) : tintOf [] ys = 0 := rfl
theorem tint_cons (x : Sr × Int) (r : Hs) (ys : List Int) : tintOf (x :: r) ys = (if onS x.1 ys = true then x.2 else 0) + tintOf r ys := by
  unfold tintOf tintL
  by_cases c : onS x.1 ys = true
  · simp [List.filter_cons, c]
  · simp [List.filter_cons, c]
theorem tint_append (a b : Hs) (ys : List Int) : tintOf (a ++ b) ys = tintOf a ys + tintOf b ys := by
  unfold tintOf tintL
  rw [List.filter_append, List.map_append, List.sum_append]
/-- the same cells, the same tint -/
def Twin (dd : Nat) (x y : Sr × Int) : Prop := x.2 = y.2 ∧ ∀ ys : List Int, ys.length = dd → onS x.1 ys = onS y.1 ys
theorem twin_tint {dd : Nat} {a b : Hs} (h : Paired (Twin dd) a b) {ys : List Int} (yl : ys.length = dd) : tintOf a ys = tintOf b ys := by
  induction h with
  | nil => rfl
  | cons r t ih => rw [tint_cons, tint_cons, ih, r.1, r.2 ys yl]
theorem other_on {pw : List (Nat × Nat)} (h : Pw pw) {u : Int} (nu : ∀ x ∈ pw, ¬ (x.1 : Int) ∣ u) (cs : List Int) (r : Int) (ys : List Int) : onS ⟨mOf pw, cs, r⟩ ys = onS ⟨mOf pw, mulM (mOf pw) u cs, (u * r) % ((mOf pw : Nat) : Int)⟩ ys := by
  have e : (dotI (mulM (mOf pw) u cs) ys - (u * r) % ((mOf pw : Nat) : Int)) % ((mOf pw : Nat) : Int) = (u * (dotI cs ys - r)) % ((mOf pw : Nat) : Int) := by
    unfold mulM
    rw [Int.sub_emod, dot_unit, Int.emod_emod, ← Int.sub_emod, ← Int.mul_sub]
  refine decide_eq_decide.mpr ?_
  show (dotI cs ys - r) % ((mOf pw : Nat) : Int) = 0 ↔ (dotI (mulM (mOf pw) u cs) ys - (u * r) % ((mOf pw : Nat) : Int)) % ((mOf pw : Nat) : Int) = 0
  rw [e, ← Int.dvd_iff_emod_eq_zero, ← Int.dvd_iff_emod_eq_zero]
  exact ⟨fun d => Int.dvd_trans d (Int.dvd_mul_left _ _), fun d => unit_drop h nu d⟩
/-- what the law draws -/
structure OkS (dd : Nat) (x : Sr × Int) : Prop where
  sr : SrOk dd x.1
  nz : x.2 ≠ 0
  tb : Bd 140 x.2
  mb : x.1.m < 10 ^ 40
theorem paired_take {α β : Type} {F : α → β → Prop} : ∀ {l : List α} {m : List β} (n : Nat), Paired F l m → Paired F (l.take n) (m.take n)
  | _, _, 0, _ => .nil
  | _, _, n + 1, .nil => .nil
  | _, _, n + 1, .cons r t => .cons r (paired_take n t)
theorem paired_drop {α β : Type} {F : α → β → Prop} : ∀ {l : List α} {m : List β} (n : Nat), Paired F l m → Paired F (l.drop n) (m.drop n)
  | _, _, 0, h => h
  | _, _, n + 1, .nil => .nil
  | _, _, n + 1, .cons _ t => paired_drop n t
theorem paired_evens {α β : Type} {F : α → β → Prop} : ∀ {l : List α} {m : List β}, Paired F l m → Paired F (evens l) (evens m)
  | _, _, .nil => .nil
  | _, _, .cons r .nil => .cons r .nil
  | _, _, .cons r (.cons _ t) => .cons r (paired_evens t)
theorem HsOk.sub {d : Nat} {a b : Hs} (h : HsOk d b) (s : a.Sublist b) : HsOk d a :=
  ⟨fun x hx => h.sr x (s.subset hx), fun x hx => h.nz x (s.subset hx), h.asc.sublist (s.map _)⟩
theorem tint_evens (ys : List Int) : ∀ l : Hs, tintOf (evens (l.drop 1)) ys + tintOf (evens l) ys = tintOf l ys
  | [] => rfl
  | x :: r => by
    have ih := tint_evens ys r
    rw [evens_cons, tint_cons, tint_cons]
    show tintOf (evens r) ys + (_ + tintOf (evens (r.drop 1)) ys) = _
    omega
theorem tint_bd {b : Nat} (ys : List Int) : ∀ {hs : Hs}, (∀ x ∈ hs, Bd b x.2) → (tintOf hs ys).natAbs ≤ hs.length * 2 ^ b
  | [], _ => by
    show (0 : Int).natAbs ≤ _
    exact Nat.zero_le _
  | x :: r, h => by
    have ih := tint_bd ys (hs := r) fun y hy => h y (List.mem_cons_of_mem _ hy)
    have hx := h x List.mem_cons_self
    rw [tint_cons, List.length_cons, Nat.add_mul, Nat.one_mul]
    unfold Bd at hx
    split <;> omega
theorem rp_ints3 {z : Int} (h : z.natAbs < 2 ^ 1900) : Rp 10000 1 (.tuple [.int z, .int z, .int z]) := Rp.tup (n := 1921) (k := 0) (fun d hd => by
  simp only [List.mem_cons, List.not_mem_nil, or_false, or_self] at hd
  rw [hd]
  exact Rp.int h) (by show 3 + 3 * 1923 ≤ 10000; decide)
/-- the tint is the same at cells that lie from one another by multiples of all periods -/
theorem dot_shift (m : Int) : ∀ (cs xs zs : List Int), cs.length = xs.length → xs.length = zs.length → ∃ k : Int, dotI cs (List.zipWith (fun a b => a + m * b) xs zs) = dotI cs xs + m * k
  | [], _, _, _, _ => ⟨0, by show (0 : Int) = 0 + m * 0; rw [Int.mul_zero, Int.add_zero]⟩
  | c :: cs, [], _, h, _ => by cases h
  | c :: cs, x :: xs, [], _, h => by cases h
  | c :: cs, x :: xs, z :: zs, h1, h2 => by
    obtain ⟨k, e⟩ := dot_shift m cs xs zs (by simpa using h1) (by simpa using h2)
    refine ⟨c * z + k, ?_⟩
    rw [List.zipWith_cons_cons, dot_cons, dot_cons, e]
    grind
theorem on_shift {s : Sr} {M : Nat} (hm : s.m ∣ M) {xs zs : List Int} (h1 : s.c.length = xs.length) (h2 : xs.length = zs.length) : onS s (List.zipWith (fun a b => a + (M : Int) * b) xs zs) = onS s xs := by
  obtain ⟨k, e⟩ := dot_shift (M : Int) s.c xs zs h1 h2
  obtain ⟨t, rfl⟩ := hm
  unfold onS
  rw [e]
  refine decide_eq_decide.mpr ?_
  rw [← Int.dvd_iff_emod_eq_zero, ← Int.dvd_iff_emod_eq_zero]
  have d : (s.m : Int) ∣ ((s.m * t : Nat) : Int) * k := by
    rw [Int.natCast_mul, Int.mul_assoc]
    exact Int.dvd_mul_right _ _
  rw [show dotI s.c xs + ((s.m * t : Nat) : Int) * k - s.r = (dotI s.c xs - s.r) + ((s.m * t : Nat) : Int) * k by omega]
  exact ⟨fun h => by have := Int.dvd_sub h d; rwa [Int.add_sub_cancel] at this, fun h => Int.dvd_add h d⟩
theorem tint_shift {M dd : Nat} {xs zs : List Int} (h1 : xs.length = dd) (h2 : zs.length = dd) : ∀ {hs : Hs}, (∀ x ∈ hs, x.1.m ∣ M ∧ x.1.c.length = dd) → tintOf hs (List.zipWith (fun a b => a + (M : Int) * b) xs zs) = tintOf hs xs
  | [], _ => rfl
  | x :: r, h => by
    have hx := h x List.mem_cons_self
    rw [tint_cons, tint_cons, on_shift hx.1 (by rw [hx.2, h1]) (by rw [h1, h2]), tint_shift h1 h2 fun y hy => h y (List.mem_cons_of_mem _ hy)]
theorem lcm_dvd (a b : Nat) : a ∣ a / Nat.gcd a b * b ∧ b ∣ a / Nat.gcd a b * b := by
  refine ⟨?_, Nat.dvd_mul_left _ _⟩
  obtain ⟨k, hk⟩ := Nat.gcd_dvd_right a b
  have e : a / Nat.gcd a b * b = a * k := by
    rcases Nat.eq_zero_or_pos (Nat.gcd a b) with z | z
    · have : a = 0 := Nat.eq_zero_of_gcd_eq_zero_left z
      rw [this]
      simp
    · have h1 := Nat.div_mul_cancel (Nat.gcd_dvd_left a b)
      calc a / Nat.gcd a b * b = a / Nat.gcd a b * (Nat.gcd a b * k) := by rw [← hk]
        _ = a / Nat.gcd a b * Nat.gcd a b * k := by rw [Nat.mul_assoc]
        _ = a * k := by rw [h1]
  rw [e]
  exact Nat.dvd_mul_right _ _
end KL
/-! plain parts: mathematics -/
namespace KL
open PySem PySem.Spec PyProof.Rows L2 RZ StX SrtO Kw KM
/-- the exponent of a prime -/
def exP (p : Nat) : List (Nat × Nat) → Nat
  | [] => 0
  | x :: r => if x.1 = p then x.2 else exP p r
theorem exP_none {p : Nat} : ∀ {pw : List (Nat × Nat)}, p ∉ pw.map (·.1) → exP p pw = 0
  | [], _ => rfl
  | x :: r, h => by
    have h1 : ¬ x.1 = p := fun e => h (by rw [List.map_cons, e]; exact List.mem_cons_self)
    unfold exP
    rw [if_neg h1]
    exact exP_none fun z => h (List.mem_cons_of_mem _ z)
theorem exP_mem : ∀ {pw : List (Nat × Nat)}, Pw pw → ∀ {x : Nat × Nat}, x ∈ pw → exP x.1 pw = x.2
  | y :: r, h, x, hx => by
    unfold exP
    rcases List.mem_cons.mp hx with rfl | hx
    · rw [if_pos rfl]
    · have ne : ¬ y.1 = x.1 := fun e => (List.nodup_cons.mp h.nodup).1 (by show y.1 ∈ r.map (fun z => z.1); rw [e]; exact List.mem_map_of_mem (f := fun z : Nat × Nat => z.1) hx)
      rw [if_neg ne]
      exact exP_mem h.tail hx
theorem exP_dvd {pw : List (Nat × Nat)} (h : Pw pw) {p : Nat} (hp : p ∈ PN) : p ^ exP p pw ∣ mOf pw ∧ ¬ p ^ (exP p pw + 1) ∣ mOf pw := by
  by_cases c : p ∈ pw.map (·.1)
  · obtain ⟨x, hx, rfl⟩ := List.mem_map.mp c
    rw [exP_mem h hx]
    have d := part_dvd_mOf h hx
    refine ⟨d, fun z => ?_⟩
    rw [← Nat.mul_div_cancel' (part_dvd_mOf h hx), Nat.pow_succ] at z
    have p2 := PN_lt _ hp
    have := Nat.dvd_of_mul_dvd_mul_left (Nat.pow_pos (by omega)) z
    exact (cof_dvd h hx hx).mp this rfl
  · rw [exP_none c]
    refine ⟨Nat.one_dvd _, fun z => c ((dvd_mOf hp h).mp ?_)⟩
    simpa using z
/-- one prime less -/
def decP (p : Nat) : List (Nat × Nat) → List (Nat × Nat)
  | [] => []
  | x :: r => if x.1 = p then (if x.2 ≤ 1 then r else (x.1, x.2 - 1) :: r) else x :: decP p r
theorem decP_sub (p : Nat) : ∀ pw : List (Nat × Nat), ((decP p pw).map (·.1)).Sublist (pw.map (·.1))
  | [] => .slnil
  | x :: r => by
    unfold decP
    split
    · split
      · exact List.sublist_cons_self _ _
      · exact List.Sublist.refl _
    · exact .cons₂ _ (decP_sub p r)
theorem decP_mem {p : Nat} : ∀ {pw : List (Nat × Nat)}, Pw pw → ∀ {y : Nat × Nat}, (y ∈ decP p pw ↔ (y ∈ pw ∧ y.1 ≠ p) ∨ (y.1 = p ∧ 1 ≤ y.2 ∧ (p, y.2 + 1) ∈ pw))
  | [], _, y => by simp [decP]
  | x :: r, h, y => by
    have nx := (List.nodup_cons.mp h.nodup).1
    have off : ∀ z ∈ r, z.1 ≠ x.1 := fun z hz e => nx (by show x.1 ∈ r.map (fun z => z.1); rw [← e]; exact List.mem_map_of_mem (f := fun z : Nat × Nat => z.1) hz)
    have x1 := h.pos x List.mem_cons_self
    unfold decP
    by_cases c : x.1 = p
    · subst c
      rw [if_pos rfl]
      have offr : ∀ k, (x.1, k) ∉ r := fun k z => off _ z rfl
      by_cases c2 : x.2 ≤ 1
      · rw [if_pos c2]
        constructor
        · intro hy
          exact .inl ⟨List.mem_cons_of_mem _ hy, off y hy⟩
        · rintro (⟨hy, ne⟩ | ⟨e, y1, hy⟩)
          · rcases List.mem_cons.mp hy with rfl | hy
            · exact absurd rfl ne
            · exact hy
          · rcases List.mem_cons.mp hy with e2 | hy
            · have : y.2 + 1 = x.2 := by rw [← e2]
              omega
            · exact absurd hy (offr _)
      · rw [if_neg c2]
        constructor
        · intro hy
          rcases List.mem_cons.mp hy with rfl | hy
          · refine .inr ⟨rfl, by show 1 ≤ x.2 - 1; omega, List.mem_cons.mpr (.inl ?_)⟩
            show (x.1, x.2 - 1 + 1) = x
            rw [show x.2 - 1 + 1 = x.2 by omega]
          · exact .inl ⟨List.mem_cons_of_mem _ hy, off y hy⟩
        · rintro (⟨hy, ne⟩ | ⟨e, y1, hy⟩)
          · rcases List.mem_cons.mp hy with rfl | hy
            · exact absurd rfl ne
            · exact List.mem_cons_of_mem _ hy
          · rcases List.mem_cons.mp hy with e2 | hy
            · have e3 : y.2 + 1 = x.2 := by rw [← e2]
              refine List.mem_cons.mpr (.inl ?_)
              rw [← e3]
              show y = (x.1, y.2 + 1 - 1)
              rw [← e, Nat.add_sub_cancel]
            · exact absurd hy (offr _)
    · rw [if_neg c, List.mem_cons, decP_mem h.tail]
      constructor
      · rintro (rfl | (⟨hy, ne⟩ | ⟨e, y1, hy⟩))
        · exact .inl ⟨List.mem_cons_self, c⟩
        · exact .inl ⟨List.mem_cons_of_mem _ hy, ne⟩
        · exact .inr ⟨e, y1, List.mem_cons_of_mem _ hy⟩
      · rintro (⟨hy, ne⟩ | ⟨e, y1, hy⟩)
        · rcases List.mem_cons.mp hy with rfl | hy
          · exact .inl rfl
          · exact .inr (.inl ⟨hy, ne⟩)
        · rcases List.mem_cons.mp hy with e2 | hy
          · exact absurd (by rw [← e2]) c
          · exact .inr (.inr ⟨e, y1, hy⟩)
theorem decP_pw {p : Nat} {pw : List (Nat × Nat)} (h : Pw pw) : Pw (decP p pw) :=
  ⟨(decP_sub p pw).trans h.sub, fun y hy => by
    rcases (decP_mem h).mp hy with ⟨hy, _⟩ | ⟨_, y1, _⟩
    · exact h.pos y hy
    · exact y1⟩
theorem decP_mOf {p : Nat} : ∀ {pw : List (Nat × Nat)}, Pw pw → p ∈ pw.map (·.1) → mOf pw = p * mOf (decP p pw)
  | x :: r, h, hp => by
    unfold decP
    have x1 := h.pos x List.mem_cons_self
    by_cases c : x.1 = p
    · rw [if_pos c]
      by_cases c2 : x.2 ≤ 1
      · rw [if_pos c2]
        show x.1 ^ x.2 * mOf r = _
        rw [show x.2 = 1 by omega, Nat.pow_one, c]
      · rw [if_neg c2]
        show x.1 ^ x.2 * mOf r = p * (x.1 ^ (x.2 - 1) * mOf r)
        have e2 : x.1 * x.1 ^ (x.2 - 1) = x.1 ^ x.2 := by
          rw [Nat.mul_comm, ← Nat.pow_succ]
          congr 1
          omega
        rw [← Nat.mul_assoc, ← c, e2]
    · rw [if_neg c]
      have hp' : p ∈ r.map (·.1) := by
        rcases List.mem_cons.mp hp with e | hp
        · exact absurd e.symm c
        · exact hp
      show x.1 ^ x.2 * mOf r = p * (x.1 ^ x.2 * mOf (decP p r))
      rw [decP_mOf h.tail hp', Nat.mul_left_comm]
theorem decP_prod {p : Nat} : ∀ {pw : List (Nat × Nat)}, Pw pw → prodP (decP p pw) ≤ prodP pw
  | [], _ => Nat.le_refl _
  | x :: r, h => by
    have p2 := PN_lt _ (h.mem List.mem_cons_self)
    unfold decP
    split
    · split
      · exact Nat.le_mul_of_pos_left _ (by omega)
      · exact Nat.le_refl _
    · exact Nat.mul_le_mul_left _ (decP_prod h.tail)
theorem decP_per {p : Nat} {pw : List (Nat × Nat)} (h : Per pw) : Per (decP p pw) := by
  refine ⟨decP_pw h.ok, Nat.le_trans (decP_prod h.ok) h.few, Nat.lt_of_le_of_lt ?_ h.bd⟩
  by_cases c : p ∈ pw.map (·.1)
  · rw [decP_mOf h.ok c]
    obtain ⟨x, hx, rfl⟩ := List.mem_map.mp c
    have := PN_lt _ (h.ok.mem hx)
    exact Nat.le_mul_of_pos_left _ (by omega)
  · have e : decP p pw = pw := by
      clear h
      induction pw with
      | nil => rfl
      | cons x r ih =>
        have n1 : ¬ x.1 = p := fun e => c (by rw [List.map_cons, e]; exact List.mem_cons_self)
        unfold decP
        rw [if_neg n1, ih fun z => c (List.mem_cons_of_mem _ z)]
    rw [e]
    exact Nat.le_refl _
theorem decP_div {p : Nat} {pw : List (Nat × Nat)} (h : Pw pw) (hp : p ∈ pw.map (·.1)) : mOf pw / p = mOf (decP p pw) := by
  obtain ⟨x, hx, e⟩ := List.mem_map.mp hp
  have := PN_lt _ (h.mem hx)
  rw [decP_mOf h hp]
  exact Nat.mul_div_cancel_left _ (by omega)
theorem decP_ex {p : Nat} {pw : List (Nat × Nat)} (h : Pw pw) {k : Nat} (e : exP p pw = k + 1) : exP p (decP p pw) = k := by
  have hp : p ∈ pw.map (·.1) := Classical.byContradiction fun z => by rw [exP_none z] at e; omega
  obtain ⟨x, hx, ex⟩ := List.mem_map.mp hp
  have e2 := exP_mem h hx
  rw [ex, e] at e2
  by_cases c : k = 0
  · subst c
    refine exP_none fun z => ?_
    obtain ⟨y, hy, ey⟩ := List.mem_map.mp z
    rcases (decP_mem h).mp hy with ⟨_, ne⟩ | ⟨_, y1, hy⟩
    · exact ne ey
    · have := exP_mem h hy
      show False
      have this : exP p pw = y.2 + 1 := this
      omega
  · have hy : (p, k) ∈ decP p pw := (decP_mem h).mpr (.inr ⟨rfl, by show 1 ≤ k; omega, by
      show (p, k + 1) ∈ pw
      rw [e2, ← ex]
      exact hx⟩)
    exact exP_mem (decP_pw h) hy
/-- low at a prime -/
def lowX (x : Nat × Nat) (r : Int) : Bool := decide (r % ((qOf x : Nat) : Int) < ((qOf x : Nat) : Int) - ((qOf x : Nat) : Int) / (x.1 : Int))
theorem lowX_zero {p : Nat} (hp : 2 ≤ p) (r : Int) : lowX (p, 0) r = true := by
  unfold lowX
  have e : qOf (p, 0) = 1 := rfl
  rw [e]
  refine decide_eq_true ?_
  have : ((1 : Nat) : Int) / (p : Int) = 0 := Int.ediv_eq_zero_of_lt (by omega) (by omega)
  rw [show ((p, 0) : Nat × Nat).1 = p from rfl, this]
  have := emodB r (show (0 : Int) < ((1 : Nat) : Int) by omega)
  omega
theorem lowX_same {x : Nat × Nat} {r s : Int} (h : r % ((qOf x : Nat) : Int) = s % ((qOf x : Nat) : Int)) : lowX x r = lowX x s := by
  unfold lowX
  rw [h]
/-- the sisters of a stripe at a prime; the stripe by a p-th of its period -/
def sis (p : Nat) (s : Sr) : List Sr := (List.range (p - 1)).map fun e : Nat => ⟨s.m, s.c, (s.r + ((e : Int) + 1) * ((s.m : Int) / (p : Int))) % (s.m : Int)⟩
def divS (p : Nat) (s : Sr) : Sr := ⟨s.m / p, s.c.map fun c => c % ((s.m / p : Nat) : Int), s.r % ((s.m / p : Nat) : Int)⟩
/-- a stripe in its normal form, the period's prime powers named -/
structure Nf (d : Nat) (pw : List (Nat × Nat)) (s : Sr) : Prop where
  m : mOf pw = s.m
  ok : SOk pw s.c s.r
  u : IsU pw s.c 1
  len : s.c.length = d
theorem sis_mem {p : Nat} {s t : Sr} (h : t ∈ sis p s) : ∃ e : Int, 1 ≤ e ∧ e < p ∧ t = ⟨s.m, s.c, (s.r + e * ((s.m : Int) / (p : Int))) % (s.m : Int)⟩ := by
  obtain ⟨e, he, rfl⟩ := List.mem_map.mp h
  have := List.mem_range.mp he
  exact ⟨(e : Int) + 1, by omega, by omega, rfl⟩
theorem Nf.sis {d p : Nat} {pw : List (Nat × Nat)} {s t : Sr} (h : Nf d pw s) (ht : t ∈ KL.sis p s) : Nf d pw t := by
  obtain ⟨e, _, _, rfl⟩ := sis_mem ht
  have hm := mOf_pos h.ok.per.ok
  refine ⟨h.m, ⟨h.ok.per, h.ok.l1, h.ok.l3, h.ok.c0, ?_, h.ok.cop⟩, h.u, h.len⟩
  rw [h.m]
  exact emodB _ (by have := h.m; omega)
theorem emod_of_dvd {q m : Nat} (z : Int) (h : q ∣ m) : z % ((m : Nat) : Int) % ((q : Nat) : Int) = z % ((q : Nat) : Int) := Int.emod_emod_of_dvd _ (Int.natCast_dvd_natCast.mpr h)
theorem sis_other {d p : Nat} {pw : List (Nat × Nat)} {s t : Sr} (h : Nf d pw s) (hp : p ∈ pw.map (·.1)) (ht : t ∈ KL.sis p s) {x : Nat × Nat} (hx : x ∈ pw) (ne : x.1 ≠ p) : t.r % ((qOf x : Nat) : Int) = s.r % ((qOf x : Nat) : Int) := by
  obtain ⟨e, _, _, rfl⟩ := sis_mem ht
  show (s.r + e * ((s.m : Int) / (p : Int))) % (s.m : Int) % ((qOf x : Nat) : Int) = _
  have hw := h.ok.per.ok
  rw [← h.m, emod_of_dvd _ (part_dvd_mOf hw hx), nat_div, decP_div hw hp]
  have d : qOf x ∣ mOf (decP p pw) := part_dvd_mOf (decP_pw hw) ((decP_mem hw).mpr (.inl ⟨hx, ne⟩))
  refine emod_of_sub ?_
  rw [show ∀ a b : Int, a + b - a = b by intros; omega]
  exact Int.dvd_mul_of_dvd_right (Int.natCast_dvd_natCast.mpr d)
/-- the sisters are low where the stripe is not -/
theorem sis_low {d : Nat} {pw : List (Nat × Nat)} {s t : Sr} (h : Nf d pw s) {x : Nat × Nat} (hx : x ∈ pw) (nl : lowX x s.r = false) (ht : t ∈ KL.sis x.1 s) : lowX x t.r = true := by
  obtain ⟨e, e1, e2, rfl⟩ := sis_mem ht
  have hw := h.ok.per.ok
  have hxP := hw.mem hx
  have p2 := PN_lt _ hxP
  have k1 := hw.pos x hx
  -- q = p * Q
  obtain ⟨Q, hQ⟩ : ∃ Q, qOf x = x.1 * Q := ⟨x.1 ^ (x.2 - 1), by
    unfold qOf
    rw [Nat.mul_comm, ← Nat.pow_succ]
    congr 1
    omega⟩
  have q1 := (qOf_le hw hx).1
  have Q1 : 1 ≤ Q := by
    rcases Nat.eq_zero_or_pos Q with z | z
    · rw [hQ, z, Nat.mul_zero] at q1
      omega
    · exact z
  -- m = q * w
  have d := part_dvd_mOf hw hx
  obtain ⟨w, hw'⟩ : ∃ w, mOf pw / qOf x = w := ⟨_, rfl⟩
  have em : mOf pw = qOf x * w := by rw [← hw']; exact (Nat.mul_div_cancel' d).symm
  have nw : ¬ x.1 ∣ w := fun z => (cof_dvd hw hx hx).mp (by rw [hw']; exact z) rfl
  have emp : ((s.m : Int) / (x.1 : Int)) = (w : Int) * (Q : Int) := by
    rw [← h.m, nat_div, em, hQ, Nat.mul_assoc, Nat.mul_div_cancel_left _ (by omega), Int.natCast_mul, Int.mul_comm]
  unfold lowX at nl ⊢
  have nl := of_decide_eq_false nl
  refine decide_eq_true ?_
  show (s.r + e * ((s.m : Int) / (x.1 : Int))) % (s.m : Int) % ((qOf x : Nat) : Int) < _
  rw [← h.m, emod_of_dvd _ d, h.m, emp]
  have p0 : (0 : Int) < (x.1 : Int) := by omega
  have Q0 : (0 : Int) < (Q : Int) := by omega
  have eq : ((qOf x : Nat) : Int) = (x.1 : Int) * (Q : Int) := by rw [hQ, Int.natCast_mul]
  have eqd : ((qOf x : Nat) : Int) / (x.1 : Int) = (Q : Int) := by
    rw [eq]
    exact Int.mul_ediv_cancel_left _ (by omega)
  rw [eqd] at nl ⊢
  rw [eq] at nl ⊢
  -- r = (p - 1) Q + b by q
  have rb := emodB s.r (show (0 : Int) < (x.1 : Int) * (Q : Int) from Int.mul_pos p0 Q0)
  generalize hR : s.r % ((x.1 : Int) * (Q : Int)) = R at nl rb
  obtain ⟨b, hb⟩ : ∃ b, R = ((x.1 : Int) - 1) * Q + b := ⟨R - ((x.1 : Int) - 1) * Q, by omega⟩
  have ex1 : ((x.1 : Int) - 1) * (Q : Int) = (x.1 : Int) * Q - Q := by rw [Int.sub_mul, Int.one_mul]
  have b0 : 0 ≤ b := by omega
  have bQ : b < Q := by omega
  have er : (s.r + e * ((w : Int) * (Q : Int))) % ((x.1 : Int) * (Q : Int)) = (((x.1 : Int) - 1 + e * w) % (x.1 : Int)) * Q + b := by
    have em2 := Int.emod_add_mul_ediv s.r ((x.1 : Int) * (Q : Int))
    rw [hR] at em2
    have tb := emodB ((x.1 : Int) - 1 + e * w) p0
    have em3 := Int.emod_add_mul_ediv ((x.1 : Int) - 1 + e * w) (x.1 : Int)
    generalize ((x.1 : Int) - 1 + e * w) % (x.1 : Int) = t at tb em3
    generalize ((x.1 : Int) - 1 + e * w) / (x.1 : Int) = j at em3
    generalize s.r / ((x.1 : Int) * (Q : Int)) = i at em2
    have e5 : s.r + e * ((w : Int) * (Q : Int)) = t * Q + b + ((x.1 : Int) * (Q : Int)) * (i + j) := by
      rw [← em2, hb]
      have : (((x.1 : Int) - 1 + e * w)) * Q = (t + (x.1 : Int) * j) * Q := by rw [em3]
      grind
    rw [e5, Int.add_mul_emod_self_left]
    refine Int.emod_eq_of_lt ?_ ?_
    · have := Int.mul_nonneg tb.1 (Int.le_of_lt Q0)
      omega
    · have : t * Q ≤ ((x.1 : Int) - 1) * Q := Int.mul_le_mul_of_nonneg_right (by omega) (Int.le_of_lt Q0)
      omega
  rw [er]
  have tb := emodB ((x.1 : Int) - 1 + e * w) p0
  have tn : ((x.1 : Int) - 1 + e * w) % (x.1 : Int) ≠ (x.1 : Int) - 1 := by
    intro z
    have z2 : ((x.1 : Int) - 1 + e * w) % (x.1 : Int) = ((x.1 : Int) - 1) % (x.1 : Int) := by
      rw [z]
      exact (Int.emod_eq_of_lt (by omega) (by omega)).symm
    have dv := sub_of_emod z2
    rw [show (x.1 : Int) - 1 + e * w - ((x.1 : Int) - 1) = e * w by omega] at dv
    have nwi : ¬ (x.1 : Int) ∣ (w : Int) := fun z => nw (Int.natCast_dvd_natCast.mp z)
    have de := p_of_mul hxP nwi dv
    have := Int.le_of_dvd (by omega) de
    omega
  generalize ((x.1 : Int) - 1 + e * w) % (x.1 : Int) = t at tb tn
  have : t * Q ≤ ((x.1 : Int) - 2) * Q := Int.mul_le_mul_of_nonneg_right (by omega) (Int.le_of_lt Q0)
  rw [Int.sub_mul] at this
  omega
theorem dec_dvd {p : Nat} {pw : List (Nat × Nat)} (h : Pw pw) (hp : p ∈ pw.map (·.1)) {y : Nat × Nat} (hy : y ∈ decP p pw) : ∃ x ∈ pw, x.1 = y.1 ∧ qOf y ∣ qOf x ∧ (y.1 ≠ p → x = y) := by
  rcases (decP_mem h).mp hy with ⟨hy, ne⟩ | ⟨e, y1, hy⟩
  · exact ⟨y, hy, rfl, Nat.dvd_refl _, fun _ => rfl⟩
  · refine ⟨_, hy, e.symm, ?_, fun ne => absurd e ne⟩
    unfold qOf
    rw [e]
    exact Nat.pow_dvd_pow p (Nat.le_succ _)
theorem Nf.div {d p : Nat} {pw : List (Nat × Nat)} {s : Sr} (h : Nf d pw s) (hp : p ∈ pw.map (·.1)) : Nf d (decP p pw) (divS p s) := by
  have hw := h.ok.per.ok
  have hv := decP_pw (p := p) hw
  have em : s.m / p = mOf (decP p pw) := by rw [← h.m]; exact decP_div hw hp
  have m1 := mOf_pos hv
  have nd : ∀ y ∈ decP p pw, ∀ c : Int, (y.1 : Int) ∣ c % ((mOf (decP p pw) : Nat) : Int) ↔ (y.1 : Int) ∣ c := fun y hy c => p_emod hv hy c
  have fr : ∀ y ∈ decP p pw, ∀ k c, IsFst y.1 (divS p s).c k c → ∃ c0, IsFst y.1 s.c k c0 ∧ c = c0 % ((mOf (decP p pw) : Nat) : Int) := by
    intro y hy k c i
    have a := i.at_
    unfold divS at a
    rw [em, List.getElem?_map] at a
    obtain ⟨c0, h0, rfl⟩ := Option.map_eq_some_iff.mp a
    refine ⟨c0, ⟨h0, fun z => i.nd ((nd y hy c0).mpr z), fun j b hj hb => ?_⟩, rfl⟩
    refine (nd y hy b).mp (i.ahead j _ hj ?_)
    show ((divS p s).c)[j]? = _
    unfold divS
    rw [em, List.getElem?_map, hb]
    rfl
  refine ⟨em.symm, ⟨decP_per h.ok.per, ?_, ?_, ?_, ?_, ?_⟩, ?_, ?_⟩
  · show 1 ≤ (s.c.map _).length
    rw [List.length_map]
    exact h.ok.l1
  · show (s.c.map _).length ≤ 3
    rw [List.length_map]
    exact h.ok.l3
  · intro c hc
    unfold divS at hc
    obtain ⟨c0, _, rfl⟩ := List.mem_map.mp hc
    rw [em]
    exact emodB _ (by omega)
  · show 0 ≤ s.r % _ ∧ s.r % _ < _
    rw [em]
    exact emodB _ (by omega)
  · refine gcdL_one hv fun y hy => ?_
    obtain ⟨x, hx, e, _⟩ := dec_dvd hw hp hy
    obtain ⟨c, hc, n⟩ := h.ok.free hx
    refine ⟨c % ((mOf (decP p pw) : Nat) : Int), ?_, fun z => n ?_⟩
    · unfold divS
      rw [em]
      exact List.mem_map_of_mem (f := fun c => c % ((mOf (decP p pw) : Nat) : Int)) hc
    · rw [e]
      exact (nd y hy c).mp z
  · intro y hy k c i
    obtain ⟨c0, i0, rfl⟩ := fr y hy k c i
    obtain ⟨x, hx, e, dv, _⟩ := dec_dvd hw hp hy
    have u := h.u x hx k c0 (by rw [e]; exact i0)
    have u2 : ((qOf y : Nat) : Int) ∣ 1 * c0 - 1 := Int.dvd_trans (Int.natCast_dvd_natCast.mpr dv) u
    have d2 : ((qOf y : Nat) : Int) ∣ ((mOf (decP p pw) : Nat) : Int) := Int.natCast_dvd_natCast.mpr (part_dvd_mOf hv hy)
    have e2 := Int.emod_add_mul_ediv c0 ((mOf (decP p pw) : Nat) : Int)
    rw [show 1 * (c0 % ((mOf (decP p pw) : Nat) : Int)) - 1 = (1 * c0 - 1) - ((mOf (decP p pw) : Nat) : Int) * (c0 / ((mOf (decP p pw) : Nat) : Int)) by omega]
    exact Int.dvd_sub u2 (Int.dvd_mul_of_dvd_left d2)
  · show (s.c.map _).length = d
    rw [List.length_map]
    exact h.len
theorem div_other {d p : Nat} {pw : List (Nat × Nat)} {s : Sr} (h : Nf d pw s) (hp : p ∈ pw.map (·.1)) {x : Nat × Nat} (hx : x ∈ pw) (ne : x.1 ≠ p) : (divS p s).r % ((qOf x : Nat) : Int) = s.r % ((qOf x : Nat) : Int) := by
  have hw := h.ok.per.ok
  show s.r % ((s.m / p : Nat) : Int) % _ = _
  rw [← h.m, decP_div hw hp]
  exact emod_of_dvd _ (part_dvd_mOf (decP_pw hw) ((decP_mem hw).mpr (.inl ⟨hx, ne⟩)))
/-- taken apart at a prime -/
def apt (p : Nat) : Nat → Sr → List (Sr × Int)
  | 0, s => [(s, 1)]
  | k + 1, s => if lowX (p, k + 1) s.r = true then [(s, 1)] else (sis p s).map (fun t => (t, -1)) ++ apt p k (divS p s)
theorem apt_low {p k : Nat} (hp : 2 ≤ p) {s : Sr} (h : lowX (p, k) s.r = true) : apt p k s = [(s, 1)] := by
  cases k with
  | zero => rfl
  | succ k =>
    unfold apt
    rw [if_pos h]
theorem apt_len (p : Nat) : ∀ (k : Nat) (s : Sr), 1 ≤ (apt p k s).length ∧ (apt p k s).length ≤ 1 + k * (p - 1)
  | 0, s => ⟨Nat.le_refl _, by show 1 ≤ 1 + _; omega⟩
  | k + 1, s => by
    unfold apt
    split
    · exact ⟨Nat.le_refl _, by show 1 ≤ 1 + _; omega⟩
    · have ih := apt_len p k (divS p s)
      rw [List.length_append, List.length_map, show (sis p s).length = p - 1 by unfold sis; rw [List.length_map, List.length_range], Nat.succ_mul]
      omega
/-- what is known of a piece: the primes in D are low -/
structure Pc (d : Nat) (D : Nat → Prop) (E : List (Nat × Nat)) (s : Sr) : Prop where
  ex : ∃ pw, Nf d pw s ∧ (∀ x ∈ pw, D x.1 → lowX x s.r = true) ∧ (∀ x : Nat × Nat, x ∈ E → ¬ D x.1 → x ∈ pw) ∧ ∀ x ∈ pw, ∃ y ∈ E, y.1 = x.1
theorem apt_ok {d p : Nat} (hP : p ∈ PN) {D : Nat → Prop} (nD : ¬ D p) {E : List (Nat × Nat)} : ∀ (k : Nat) (pw : List (Nat × Nat)) (s : Sr), Nf d pw s → exP p pw = k → (∀ x ∈ pw, D x.1 → lowX x s.r = true) →
    (∀ x : Nat × Nat, x ∈ E → ¬ (D x.1 ∨ x.1 = p) → x ∈ pw) → (∀ x ∈ pw, ∃ y ∈ E, y.1 = x.1) → ∀ z ∈ apt p k s, Pc d (fun q => D q ∨ q = p) E z.1 ∧ (z.2 = 1 ∨ z.2 = -1)
  | 0, pw, s, h, e, hl, hE, hk, z, hz => by
    have hz : z ∈ [(s, (1 : Int))] := hz
    rw [List.mem_singleton.mp hz]
    refine ⟨⟨pw, h, fun x hx dx => ?_, hE, hk⟩, .inl rfl⟩
    rcases dx with dx | rfl
    · exact hl x hx dx
    · have := exP_mem h.ok.per.ok hx
      have := h.ok.per.ok.pos x hx
      omega
  | k + 1, pw, s, h, e, hl, hE, hk, z, hz => by
    have hw := h.ok.per.ok
    have hp : p ∈ pw.map (·.1) := Classical.byContradiction fun z => by rw [exP_none z] at e; omega
    obtain ⟨x0, hx0, ex0⟩ := List.mem_map.mp hp
    have e0 := exP_mem hw hx0
    have ex0 : x0.1 = p := ex0
    rw [ex0, e] at e0
    have ex : x0 = (p, k + 1) := by rw [← ex0, e0]
    unfold apt at hz
    by_cases c : lowX (p, k + 1) s.r = true
    · rw [if_pos c] at hz
      rw [List.mem_singleton.mp hz]
      refine ⟨⟨pw, h, fun x hx dx => ?_, hE, hk⟩, .inl rfl⟩
      rcases dx with dx | dx
      · exact hl x hx dx
      · have e1 := exP_mem hw hx
        rw [dx, e] at e1
        have : x = (p, k + 1) := by rw [← dx, e1]
        rw [this]
        exact c
    · rw [if_neg c] at hz
      rcases List.mem_append.mp hz with hz | hz
      · obtain ⟨t, ht, rfl⟩ := List.mem_map.mp hz
        refine ⟨⟨pw, h.sis ht, fun x hx dx => ?_, hE, hk⟩, .inr rfl⟩
        by_cases c2 : x.1 = p
        · have e1 := exP_mem hw hx
          rw [c2, e] at e1
          have e3 : x = (p, k + 1) := by rw [← c2, e1]
          have := sis_low (x := x) h hx (by rw [e3]; simpa using c) (by rw [c2]; exact ht)
          exact this
        · rw [lowX_same (sis_other h hp ht hx c2)]
          rcases dx with dx | dx
          · exact hl x hx dx
          · exact absurd dx c2
      · refine apt_ok hP nD k (decP p pw) (divS p s) (h.div hp) (decP_ex hw e) (fun y hy dy => ?_) (fun x hx nx => ?_) (fun y hy => ?_) z hz
        · have ne : y.1 ≠ p := fun q => nD (q ▸ dy)
          obtain ⟨x, hx, _, _, e2⟩ := dec_dvd hw hp hy
          have e2 := e2 ne
          subst e2
          rw [lowX_same (div_other h hp hx ne)]
          exact hl x hx dy
        · exact (decP_mem hw).mpr (.inl ⟨hE x hx nx, fun q => nx (.inr q)⟩)
        · obtain ⟨x, hx, e2, _, _⟩ := dec_dvd hw hp hy
          obtain ⟨y', hy', e3⟩ := hk x hx
          exact ⟨y', hy', by rw [e3, e2]⟩
/-- all plain parts of one stripe in its normal form -/
def plS : List (Nat × Nat) → List (Sr × Int) → List (Sr × Int)
  | [], L => L
  | x :: r, L => plS r (L.flatMap fun y => (apt x.1 x.2 y.1).map fun z => (z.1, y.2 * z.2))
theorem apt_grow {L : List (Sr × Int)} (x : Nat × Nat) : L.length ≤ (L.flatMap fun y => (apt x.1 x.2 y.1).map fun z => (z.1, y.2 * z.2)).length := by
  induction L with
  | nil => exact Nat.le_refl _
  | cons y r ih =>
    rw [List.flatMap_cons, List.length_append, List.length_map, List.length_cons]
    have := (apt_len x.1 x.2 y.1).1
    omega
theorem plS_grow : ∀ (pw : List (Nat × Nat)) (L : List (Sr × Int)), L.length ≤ (plS pw L).length
  | [], L => Nat.le_refl _
  | x :: r, L => Nat.le_trans (apt_grow x) (plS_grow r _)
theorem plS_append : ∀ (a b : List (Nat × Nat)) (L : List (Sr × Int)), plS (a ++ b) L = plS b (plS a L)
  | [], _, _ => rfl
  | x :: a, b, L => plS_append a b _
/-- the pieces of a list after some primes -/
theorem plS_ok {d : Nat} {E : List (Nat × Nat)} (hE : Pw E) : ∀ (rest done more : List (Nat × Nat)) (L : List (Sr × Int)), done ++ rest ++ more = E → (∀ y ∈ L, Pc d (fun q => q ∈ done.map (·.1)) E y.1 ∧ (y.2 = 1 ∨ y.2 = -1)) →
    ∀ y ∈ plS rest L, Pc d (fun q => q ∈ (done ++ rest).map (·.1)) E y.1 ∧ (y.2 = 1 ∨ y.2 = -1)
  | [], done, more, L, e, h, y, hy => by
    rw [List.append_nil]
    exact h y hy
  | x :: rest, done, more, L, e, h, y, hy => by
    have hxE : x ∈ E := by rw [← e]; exact List.mem_append_left _ (List.mem_append_right _ List.mem_cons_self)
    have nd : x.1 ∉ done.map (·.1) := by
      have n := hE.nodup
      rw [← e, List.append_assoc, List.map_append] at n
      have := (List.nodup_append.mp n).2.2
      intro z
      exact this _ z _ List.mem_cons_self rfl
    have := plS_ok (d := d) hE rest (done ++ [x]) more _ (by rw [List.append_assoc done [x] rest]; exact e) (fun z hz => ?_) y hy
    · rw [List.append_assoc done [x] rest] at this
      exact this
    obtain ⟨w, hw, hz⟩ := List.mem_flatMap.mp hz
    obtain ⟨v, hv, rfl⟩ := List.mem_map.mp hz
    obtain ⟨⟨pw, h1, h2, h3, h4⟩, sg⟩ := h w hw
    have xp := h3 x hxE nd
    have := apt_ok (hE.mem hxE) nd x.2 pw w.1 h1 (exP_mem h1.ok.per.ok xp) h2 (fun y hy ny => h3 y hy fun q => ny (.inl q)) h4 v hv
    obtain ⟨⟨pv, g1, g2, g3, g4⟩, sg2⟩ := this
    have eD : ∀ q, q ∈ (done ++ [x]).map (·.1) ↔ (q ∈ done.map (·.1) ∨ q = x.1) := fun q => by
      rw [List.map_append, List.mem_append, List.map_cons, List.map_nil, List.mem_singleton]
    refine ⟨⟨pv, g1, fun y hy dy => g2 y hy ((eD _).mp dy), fun y hy ny => g3 y hy fun q => ny ((eD _).mpr q), g4⟩, ?_⟩
    show w.2 * v.2 = 1 ∨ w.2 * v.2 = -1
    rcases sg with a | a <;> rcases sg2 with b | b <;> rw [a, b] <;> decide
theorem plS_take {pw : List (Nat × Nat)} {i : Nat} {x : Nat × Nat} (h : pw[i]? = some x) (L : List (Sr × Int)) : plS (pw.take (i + 1)) L = (plS (pw.take i) L).flatMap fun y => (apt x.1 x.2 y.1).map fun z => (z.1, y.2 * z.2) := by
  rw [List.take_add_one, h, plS_append]
  rfl
theorem plS_le (pw : List (Nat × Nat)) (i : Nat) (L : List (Sr × Int)) : (plS (pw.take i) L).length ≤ (plS pw L).length := by
  have e : plS pw L = plS (pw.drop i) (plS (pw.take i) L) := by rw [← plS_append, List.take_append_drop]
  rw [e]
  exact plS_grow _ _
theorem exp_uniq {p n j k : Nat} (h1 : p ^ j ∣ n) (h2 : ¬ p ^ (j + 1) ∣ n) (g1 : p ^ k ∣ n) (g2 : ¬ p ^ (k + 1) ∣ n) : j = k := by
  rcases Nat.lt_trichotomy j k with c | c | c
  · exact absurd (Nat.dvd_trans (Nat.pow_dvd_pow p c) g1) h2
  · exact c
  · exact absurd (Nat.dvd_trans (Nat.pow_dvd_pow p c) h1) g2
theorem pw_uniq {pw pv : List (Nat × Nat)} (h : Pw pw) (hv : Pw pv) (e : mOf pw = mOf pv) : pw = pv := by
  refine eq_of_keys ?_ fun a ha b hb e1 => ?_
  · rw [← primes_mOf h, ← primes_mOf hv, e]
  · have a1 := exP_mem h ha
    have b1 := exP_mem hv hb
    have hp := h.mem ha
    obtain ⟨g1, g2⟩ := exP_dvd h hp
    obtain ⟨k1, k2⟩ := exP_dvd hv hp
    rw [e] at g1 g2
    have := exp_uniq g1 g2 k1 k2
    rw [a1, e1, b1] at this
    exact Prod.ext e1 this
/-- the prime powers of a period -/
noncomputable def pwS (m : Nat) : List (Nat × Nat) := open Classical in if h : ∃ pw, Pw pw ∧ mOf pw = m then Classical.choose h else []
theorem pwS_eq {pw : List (Nat × Nat)} (h : Pw pw) : pwS (mOf pw) = pw := by
  have ex : ∃ pv, Pw pv ∧ mOf pv = mOf pw := ⟨pw, h, rfl⟩
  unfold pwS
  rw [dif_pos ex]
  have := Classical.choose_spec ex
  exact pw_uniq this.1 h this.2
noncomputable def nfS (s : Sr) : Sr := ⟨s.m, nfC (pwS s.m) s.c, nfR (pwS s.m) s.c s.r⟩
/-- all plain parts of a stripe; of a heap -/
noncomputable def plA (s : Sr) : List (Sr × Int) := plS (pwS s.m) [(nfS s, 1)]
noncomputable def plL (hs : Hs) : List (Sr × Int) := hs.flatMap fun x => (plA x.1).map fun y => (y.1, y.2 * x.2)
theorem SrOk.nf {d : Nat} {s : Sr} (h : SrOk d s) : Nf d (pwS s.m) (nfS s) ∧ SOk (pwS s.m) s.c s.r ∧ mOf (pwS s.m) = s.m := by
  obtain ⟨pw, e, ok⟩ := h.ex
  have e2 : pwS s.m = pw := by rw [← e]; exact pwS_eq ok.per.ok
  unfold nfS
  rw [e2]
  have f : Free pw s.c := fun x hx => ok.free hx
  exact ⟨⟨e, ok.nf, nf_one ok.per.ok f, by show (nfC pw s.c).length = d; rw [nfC_len]; exact h.len⟩, ok, e⟩
/-- plain stripes -/
noncomputable def isPl (s : Sr) : Bool := open Classical in decide (nfS s = s) && (pwS s.m).all fun x => lowX x s.r
theorem isPl_of {d : Nat} {s : Sr} {pw : List (Nat × Nat)} (h : Nf d pw s) (l : ∀ x ∈ pw, lowX x s.r = true) : isPl s = true := by
  have e2 : pwS s.m = pw := by rw [← h.m]; exact pwS_eq h.ok.per.ok
  have f : Free pw s.c := fun x hx => h.ok.free hx
  obtain ⟨a, b⟩ := nf_self h.ok.per.ok f h.ok.c0 h.u
  have e3 : nfS s = s := by
    unfold nfS
    rw [e2, a, b s.r h.ok.r0.1 h.ok.r0.2]
  unfold isPl
  rw [decide_eq_true e3, e2, Bool.true_and]
  exact List.all_eq_true.mpr l
/-- every part of a stripe is a plain stripe -/
theorem plA_ok {d : Nat} {s : Sr} (h : SrOk d s) : ∀ y ∈ plA s, (∃ pw, Nf d pw y.1 ∧ (∀ x ∈ pw, lowX x y.1.r = true) ∧ ∀ x ∈ pw, ∃ z ∈ pwS s.m, z.1 = x.1) ∧ (y.2 = 1 ∨ y.2 = -1) := by
  intro y hy
  obtain ⟨n, ok, em⟩ := h.nf
  have := plS_ok ok.per.ok (pwS s.m) [] [] [(nfS s, 1)] (by rw [List.append_nil]; rfl) (fun z hz => by
    rw [List.mem_singleton.mp hz]
    exact ⟨⟨_, n, fun x _ hx => absurd hx List.not_mem_nil, fun x hx _ => hx, fun x hx => ⟨x, hx, rfl⟩⟩, .inl rfl⟩) y hy
  obtain ⟨⟨pv, g1, g2, g3, g4⟩, sg⟩ := this
  refine ⟨⟨pv, g1, fun x hx => g2 x hx ?_, g4⟩, sg⟩
  obtain ⟨z, hz, e⟩ := g4 x hx
  show x.1 ∈ (pwS s.m).map (·.1)
  rw [← e]
  exact List.mem_map_of_mem hz
end KL
/-! stripes joined by their primes: mathematics -/
namespace KL
open PySem PySem.Spec PyProof.Rows L2 RZ StX SrtO Kw KM
/-- alike by q, place by place -/
def CongL (q : Int) (a b : List Int) : Prop := a.length = b.length ∧ ∀ (i : Nat) (x y : Int), a[i]? = some x → b[i]? = some y → q ∣ x - y
theorem CongL.get {q : Int} {a b : List Int} (h : CongL q a b) {i : Nat} {x : Int} (e : a[i]? = some x) : ∃ y, b[i]? = some y ∧ q ∣ x - y := by
  have hi := (List.getElem?_eq_some_iff.mp e).1
  have hb : i < b.length := by rw [← h.1]; exact hi
  exact ⟨b[i], List.getElem?_eq_getElem hb, h.2 i x _ e (List.getElem?_eq_getElem hb)⟩
theorem dvd_cong {q x y : Int} {p : Nat} (hp : (p : Int) ∣ q) (h : q ∣ x - y) : (p : Int) ∣ x ↔ (p : Int) ∣ y := by
  have d := Int.dvd_trans hp h
  constructor
  · intro k
    have := Int.dvd_sub k d
    rwa [show x - (x - y) = y by omega] at this
  · intro k
    have := Int.dvd_add d k
    rwa [show x - y + y = x by omega] at this
theorem CongL.fst {q : Int} {a b : List Int} (h : CongL q a b) {p : Nat} (hp : (p : Int) ∣ q) {k : Nat} {x : Int} (i : IsFst p a k x) : ∃ y, IsFst p b k y ∧ q ∣ x - y := by
  obtain ⟨y, hy, d⟩ := h.get i.at_
  refine ⟨y, ⟨hy, fun z => i.nd ((dvd_cong hp d).mpr z), fun j z hj e => ?_⟩, d⟩
  have hl : j < a.length := by rw [h.1]; exact (List.getElem?_eq_some_iff.mp e).1
  have ea := List.getElem?_eq_getElem hl
  exact (dvd_cong hp (h.2 j _ z ea e)).mp (i.ahead j _ hj ea)
theorem CongL.mono {q q' : Int} {a b : List Int} (h : CongL q a b) (d : q' ∣ q) : CongL q' a b := ⟨h.1, fun i x y e1 e2 => Int.dvd_trans d (h.2 i x y e1 e2)⟩
theorem CongL.symm {q : Int} {a b : List Int} (h : CongL q a b) : CongL q b a := ⟨h.1.symm, fun i x y e1 e2 => by
  have := Int.dvd_neg.mpr (h.2 i y x e2 e1)
  rwa [show -(y - x) = x - y by omega] at this⟩
/-- a stripe that at each prime power is like one in its normal form -/
theorem Nf.of_parts {d : Nat} {pw : List (Nat × Nat)} {u : Sr} (hP : Per pw) (d1 : 1 ≤ d) (d3 : d ≤ 3) (em : mOf pw = u.m) (len : u.c.length = d) (c0 : ∀ c ∈ u.c, 0 ≤ c ∧ c < (u.m : Int)) (r0 : 0 ≤ u.r ∧ u.r < (u.m : Int))
    (h : ∀ x ∈ pw, ∃ cs : List Int, CongL ((qOf x : Nat) : Int) u.c cs ∧ (∃ c ∈ cs, ¬ (x.1 : Int) ∣ c) ∧ ∀ k c, IsFst x.1 cs k c → ((qOf x : Nat) : Int) ∣ 1 * c - 1) : Nf d pw u := by
  have hw := hP.ok
  have pq : ∀ x ∈ pw, (x.1 : Int) ∣ ((qOf x : Nat) : Int) := fun x hx => p_dvd hw hx (Int.dvd_refl _)
  refine ⟨em, ⟨hP, by omega, by omega, by rw [em]; exact c0, by rw [em]; exact r0, gcdL_one hw fun x hx => ?_⟩, fun x hx k c i => ?_, len⟩
  · obtain ⟨cs, cg, ⟨c, hc, nd⟩, _⟩ := h x hx
    obtain ⟨i, hi, e⟩ := List.mem_iff_getElem.mp hc
    obtain ⟨y, hy, dd⟩ := cg.symm.get (show cs[i]? = some c by rw [List.getElem?_eq_getElem hi, e])
    exact ⟨y, List.mem_of_getElem? hy, fun z => nd ((dvd_cong (pq x hx) dd).mpr z)⟩
  · obtain ⟨cs, cg, _, hf⟩ := h x hx
    obtain ⟨y, iy, dd⟩ := cg.fst (pq x hx) i
    have := hf k y iy
    rw [show 1 * c - 1 = (c - y) + (1 * y - 1) by omega]
    exact Int.dvd_add dd this
/-- one prime more -/
theorem Nf.join {d : Nat} {pw : List (Nat × Nat)} {x : Nat × Nat} {s u : Sr} {ts : List Int} (hs : Nf d pw s) (hP : Per (pw ++ [x])) (em : mOf (pw ++ [x]) = u.m) (len : u.c.length = d) (c0 : ∀ c ∈ u.c, 0 ≤ c ∧ c < (u.m : Int)) (r0 : 0 ≤ u.r ∧ u.r < (u.m : Int))
    (c1 : CongL (s.m : Int) u.c s.c) (c2 : CongL ((qOf x : Nat) : Int) u.c ts) (f : ∃ c ∈ ts, ¬ (x.1 : Int) ∣ c) (fu : ∀ k c, IsFst x.1 ts k c → ((qOf x : Nat) : Int) ∣ 1 * c - 1) : Nf d (pw ++ [x]) u := by
  have d1 := hs.ok.l1
  have d3 := hs.ok.l3
  rw [hs.len] at d1 d3
  refine Nf.of_parts hP d1 d3 em len c0 r0 fun y hy => ?_
  rcases List.mem_append.mp hy with hy | hy
  · refine ⟨s.c, c1.mono ?_, hs.ok.free hy, fun k c i => hs.u y hy k c i⟩
    rw [← hs.m]
    exact Int.natCast_dvd_natCast.mpr (part_dvd_mOf hs.ok.per.ok hy)
  · rw [List.mem_singleton.mp hy]
    exact ⟨ts, c2, f, fu⟩
theorem mOf_snoc (pw : List (Nat × Nat)) (x : Nat × Nat) : mOf (pw ++ [x]) = mOf pw * qOf x := by
  induction pw with
  | nil => show x.1 ^ x.2 * 1 = 1 * _; rw [Nat.mul_one, Nat.one_mul]
  | cons y r ih =>
    show y.1 ^ y.2 * mOf (r ++ [x]) = y.1 ^ y.2 * mOf r * _
    rw [ih, Nat.mul_assoc]
/-- what is drawn: plain stripes -/
structure Dr (d : Nat) (pw : List (Nat × Nat)) (s : Sr) : Prop where
  nf : Nf d pw s
  low : ∀ x ∈ pw, lowX x s.r = true
/-- the stripe of all cells -/
theorem Dr.one {d : Nat} (d1 : 1 ≤ d) (d3 : d ≤ 3) : Dr d [] ⟨1, List.replicate d 0, 0⟩ :=
  ⟨Nf.of_parts ⟨⟨List.nil_sublist _, fun _ h => absurd h List.not_mem_nil⟩, by decide, by show 1 < _; decide⟩ d1 d3 rfl List.length_replicate (fun c hc => by rw [List.eq_of_mem_replicate hc]; exact ⟨Int.le_refl _, by show (0 : Int) < 1; decide⟩) ⟨Int.le_refl _, by show (0 : Int) < 1; decide⟩ fun _ h => absurd h List.not_mem_nil,
    fun _ h => absurd h List.not_mem_nil⟩
theorem low_cong {x : Nat × Nat} {r s : Int} (h : ((qOf x : Nat) : Int) ∣ r - s) : lowX x r = lowX x s := lowX_same (emod_of_sub h)
theorem Dr.join {d : Nat} {pw : List (Nat × Nat)} {x : Nat × Nat} {s u : Sr} {ts : List Int} {tr : Int} (hs : Dr d pw s) (hP : Per (pw ++ [x])) (em : mOf (pw ++ [x]) = u.m) (len : u.c.length = d) (c0 : ∀ c ∈ u.c, 0 ≤ c ∧ c < (u.m : Int)) (r0 : 0 ≤ u.r ∧ u.r < (u.m : Int))
    (c1 : CongL (s.m : Int) u.c s.c) (c2 : CongL ((qOf x : Nat) : Int) u.c ts) (f : ∃ c ∈ ts, ¬ (x.1 : Int) ∣ c) (fu : ∀ k c, IsFst x.1 ts k c → ((qOf x : Nat) : Int) ∣ 1 * c - 1)
    (r1 : (s.m : Int) ∣ u.r - s.r) (r2 : ((qOf x : Nat) : Int) ∣ u.r - tr) (lw : lowX x tr = true) : Dr d (pw ++ [x]) u := by
  refine ⟨hs.nf.join hP em len c0 r0 c1 c2 f fu, fun y hy => ?_⟩
  rcases List.mem_append.mp hy with hy | hy
  · rw [low_cong (Int.dvd_trans ?_ r1)]
    · exact hs.low y hy
    · rw [← hs.nf.m]
      exact Int.natCast_dvd_natCast.mpr (part_dvd_mOf hs.nf.ok.per.ok hy)
  · rw [List.mem_singleton.mp hy, low_cong r2]
    exact lw
theorem Dr.pl {d : Nat} {pw : List (Nat × Nat)} {s : Sr} (h : Dr d pw s) : isPl s = true := isPl_of h.nf h.low
theorem Dr.sr {d : Nat} {pw : List (Nat × Nat)} {s : Sr} (h : Dr d pw s) : SrOk d s := ⟨⟨pw, h.nf.m, h.nf.ok⟩, h.nf.len⟩
theorem isPl_nf {s : Sr} (h : isPl s = true) : nfS s = s ∧ ∀ x ∈ pwS s.m, lowX x s.r = true := by
  unfold isPl at h
  rw [Bool.and_eq_true] at h
  exact ⟨of_decide_eq_true h.1, List.all_eq_true.mp h.2⟩
theorem plS_low : ∀ (pw : List (Nat × Nat)) (s : Sr), (∀ x ∈ pw, 2 ≤ x.1 ∧ lowX x s.r = true) → plS pw [(s, 1)] = [(s, 1)]
  | [], _, _ => rfl
  | x :: r, s, h => by
    have hx := h x List.mem_cons_self
    unfold plS
    rw [show ([(s, (1 : Int))].flatMap fun y => (apt x.1 x.2 y.1).map fun z => (z.1, y.2 * z.2)) = [(s, 1)] by
      rw [List.flatMap_cons, List.flatMap_nil, List.append_nil, apt_low hx.1 hx.2]
      rfl]
    exact plS_low r s fun y hy => h y (List.mem_cons_of_mem _ hy)
theorem plA_pl {d : Nat} {s : Sr} (hs : SrOk d s) (h : isPl s = true) : plA s = [(s, 1)] := by
  obtain ⟨e, l⟩ := isPl_nf h
  unfold plA
  rw [e]
  exact plS_low _ s fun x hx => ⟨(PN_lt _ (hs.nf.2.1.per.ok.mem hx)).1, l x hx⟩
end KL
namespace PV
open PySem PySem.Spec PyProof.Rows L2 RZ StX SrtO Kw KL
/-! ### calls where defaults fill up -/
section
variable {X : Cx} {a e : Expr} {es : List Expr} {pos : Pos} {p : WE} {po pk : WAO} {K : PySem.W.Frag} {w : World} {x : Str}
abbrev wCallD (sp : PSp) (bs : List AV) (p : WAO) : WE := fun Γ Q => p Γ fun as => sp (as ++ bs) Q
theorem paired_app {α β : Type} {F : α → β → Prop} {l l' : List α} {m m' : List β} (h : Paired F l m) (h' : Paired F l' m') : Paired F (l ++ l') (m ++ m') := by
  induction h with
  | nil => exact h'
  | cons r _ ih => exact .cons r ih
theorem le_callD {t : TA} {sp : PSp} {dvs : List V} {bs : List AV} (hbs : ∀ (C : Ctx) (H : Hp) (ex : List Addr), Paired (ArgAt C H ex) dvs bs) (h : LAA K w t po) : LE K w (tCall (spV K w sp) dvs E0 t) (wCallD sp bs po) := fun C σ H ex Γ e1 e2 R Q' hp Q k => h C σ H ex Γ e1 e2 R _ hp _ fun vs as H1 R1 g1 d1 q1 => by
  show spV K w sp (vs ++ dvs) H1 Q E0
  refine ⟨{ C with ex0 := ex, H0 := H1, M := C.dk, dkE := fun a h => R.exs a (C.dkE a h), dkM := fun _ h => h, ME := fun a h => R.exs a (C.dkE a h) }, as ++ bs, Q', e1, e2, paired_app d1 (hbs C H1 ex), R1.all, R1.deck, q1, fun r v H' hq g hd hA hv => ?_⟩
  have g' : Grow C H1 H' := g
  exact k v r H' (R1.grow g' hd hA) (g1.trans g') (by rw [e1]; exact hv) hq
theorem q_callD {k : Nat} {f : Addr} {fd : FuncData} {ps : List Str} {sp : PSp} {p1 : Pos} {dvs : List V} {bs : List AV} (hbs : ∀ (C : Ctx) (H : Hp) (ex : List Addr), Paired (ArgAt C H ex) dvs bs)
    (G : GFn X.prog X.w X.K X.mg X.base k f fd ps (spV X.K X.w sp)) (hq : Quiet X.A) (hr : Room k X.A) (hg : Gl X x) (hm : X.mg x = some (.ref f))
    (hk : PySem.W.keepIn X.K (.ref f) = true) (hb : ∃ ds, Vals dvs ds ∧ Binds X.K fd ps ds) (ha : QAA X (e :: es) po) (hdb : (x == ("__debug__" : Str)) = false := by decide)
    (he : starEach (e :: es) X.env = (false, eval e X.env) :: starEach es X.env := by rfl) (hpl : (backTo pos (starEach es X.env)).any (·.1) = false := by rfl) : QE X (.Call (.Name x p1) (e :: es) [] pos) (wCallD sp bs po) :=
  let ⟨_, a1, a2⟩ := ha.ex; let ⟨_, d1, d2⟩ := hb; ⟨_, pe_callG G hq hr hg hm hk d2 d1 a1 hdb he hpl, le_callD hbs a2⟩
end
end PV
namespace PV
open PySem PySem.Spec PyProof.Rows L2 RZ StX SrtO Kw KL
/-! ### d.pop(k), d == {}, list(d) -/
def dropN (ks : Ents) (k : NK) : Ents := ks.filter fun p => decide (p.1 ≠ k)
def dropE (es : List (NK × PyData)) (k : NK) : List (NK × PyData) := es.filter fun p => decide (p.1 ≠ k)
theorem entR_drop {ks : Ents} {xs : List (NK × Addr × Value)} (r : Paired EntR ks xs) (k : NK) : Paired EntR (dropN ks k) (withoutH xs k) := by
  induction r with
  | nil => exact .nil
  | @cons p q ps qs h t ih =>
    have h1 : p.1 = q.1 := h.1
    unfold dropN withoutH at ih ⊢
    by_cases e : p.1 = k
    · rw [List.filter_cons_of_neg (by simp [e]), List.filter_cons_of_neg (by simp [← h1, e])]
      exact ih
    · rw [List.filter_cons_of_pos (by simp [e]), List.filter_cons_of_pos (by simp [← h1, e])]
      exact .cons h ih
theorem ent_drop {K : PySem.W.Frag} {B : Hp} {ks : Ents} {es : List (NK × PyData)} (h : Paired (EntAt K B) ks es) (k : NK) : Paired (EntAt K B) (dropN ks k) (dropE es k) := by
  induction h with
  | nil => exact .nil
  | @cons p q ps qs h t ih =>
    have h1 : p.1 = q.1 := h.1
    unfold dropN dropE at ih ⊢
    by_cases e : p.1 = k
    · rw [List.filter_cons_of_neg (by simp [e]), List.filter_cons_of_neg (by simp [← h1, e])]
      exact ih
    · rw [List.filter_cons_of_pos (by simp [e]), List.filter_cons_of_pos (by simp [← h1, e])]
      exact .cons h ih
section
variable {X : Cx} {w : World} {K : PySem.W.Frag}
def rPopN (K : PySem.W.Frag) (w : World) : V → List V → Hp → VK → Prop := fun x xs H Q => ∃ a b ks k v, x = .ref a ∧ xs = [.ref b] ∧ H a = some (DicN w a ks) ∧ KeysN K H ks ∧ KeyN K H k b ∧ valN ks k = some v ∧ Q v (upd H a (DicN w a (dropN ks k)))
theorem mt_popN (hu : X.A.units + 64 < cLine) (hw : X.w = w := by rfl) (hK : X.K = K := by rfl) : MtR X "dict.pop" (rPopN K w) := by
  subst hw hK
  intro pins s σ H x xs v us Q I rx rxs h
  obtain ⟨a, b, ks, k, z, ex, exs, ha, hks, hk, hv, q⟩ := h
  subst ex exs
  obtain rfl : v = Value.ref a := rx
  obtain ⟨u1, rfl, r1⟩ := vals1 rxs
  obtain rfl : u1 = Value.ref b := r1
  obtain ⟨zl, hd, ys, rel, dd⟩ := (rawN_rd I (.inl ha)).dict I hks
  have hz : ys.length ≤ sizeLine := by rw [← Paired.length rel]; exact zl
  have rl := entR_val rel k
  rw [hv] at rl
  obtain ⟨u, hu', ru⟩ := RelO.some_of (v := z) rl
  obtain ⟨p, hp, hp2⟩ := Option.map_eq_some_iff.mp hu'
  refine call_pop_heap (hsz := hz) (.inl rfl) (PySem.F.args_dict_pop_2 _ _) (room_in1 hu) (hk.is I) hd dd hp fun h' dd' hs => ?_
  obtain ⟨o, es, ep, hq, h2, h3, h4, _, h5⟩ := dd'
  rw [hp2]
  exact ⟨z, _, d_write I (by rw [ha]; exact True.intro) hs ⟨o, hq⟩ (dicN_ok ⟨Nat.le_trans (List.length_filter_le _ _) zl, hd, _, entR_drop rel k, o, es, ep, hq, h2, h3, h4, h5⟩), ru, q⟩
/-- d == {}, d != {} -/
def rEmptyN (w : World) (n : Bool) : R2 := fun x y H Q => ∃ a b ks, x = .ref a ∧ y = .ref b ∧ Rd H a (DicN w a ks) ∧ Rd H b (DicN w b []) ∧ Q (.bl (if n = true then !ks.isEmpty else ks.isEmpty)) H
theorem samePairs_empty {prog : Program} {w : World} {A : Around} {E : Value → Shared → Prop} {s : Shared} {nm : String} {a b : Addr} {oa ob : Obj} {es es' : Array DictEntry} {ep ep' : Nat} {Q : Bool → Shared → Prop} (ha : (a == sysModules) = false) (hb : (b == sysModules) = false)
    (hoa : s.heap.get? a = some oa) (hda : oa.data = .dict es ep) (hob : s.heap.get? b = some ob) (hdb : ob.data = .dict es' ep') (he : es'.size = 0) (h : Q (decide (es.size = 0)) s) :
    wpAny (model prog w) A (Builtin.Dict.samePairs nm a b) Q E s := by
  unfold Builtin.Dict.samePairs Builtin.Dict.showsAll
  rw [if_neg (show ¬ (a == sysModules) = true by rw [ha]; exact Bool.false_ne_true), if_neg (show ¬ (b == sysModules) = true by rw [hb]; exact Bool.false_ne_true)]
  refine wpAny_bind (wpAny_pure (wpAny_bind (wpAny_pure ?_)))
  refine wpAny_bind (wpAny_dictEntries hoa hda ?_)
  dsimp only
  refine wpAny_bind (wpAny_dictEntries hob hdb ?_)
  by_cases hsz : es.size = es'.size
  case neg =>
    rw [if_pos (by simpa using hsz)]
    rw [decide_eq_false (by omega)] at h
    exact wpAny_bind (wpAny_rule (wpAny_pure h))
  case pos =>
    have hsz0 : es.size = 0 := by omega
    rw [decide_eq_true hsz0] at h
    rw [if_neg (by rw [hsz]; simp)]
    refine wpAny_bind (wpAny_dictEpoch hoa hda ?_)
    refine wpAny_bind ?_
    rw [Std.Legacy.Range.forIn_eq_forIn_range']
    simp only [Std.Legacy.Range.size, Nat.sub_zero, Nat.add_sub_cancel, Nat.div_one]
    refine wpAny_forIn_list _ (fun rest q s' => s' = s ∧ q = (none, ()) ∧ rest = []) _ ?_ ?_ _ _ ⟨rfl, rfl, by rw [hsz0]; rfl⟩
    · rintro x rest q s' ⟨rfl, rfl, hr⟩
      cases hr
    · rintro q s' ⟨rfl, rfl, _⟩
      exact wpAny_pure h
theorem op_eqE (hu : X.A.units + 64 < cLine) (hw : X.w = w := by rfl) : OpR X (compareOp .Eq) (rEmptyN w false) := by
  subst hw
  intro pins s σ H x y v u Q I rx ry h
  obtain ⟨a, b, ks, ex, ey, ra, rb, q⟩ := h
  subst ex ey
  obtain rfl : v = Value.ref a := rx
  obtain rfl : u = Value.ref b := ry
  obtain ⟨t1, _, _⟩ := rawN_ty I ra
  obtain ⟨t2, _, _⟩ := rawN_ty I rb
  obtain ⟨z, hd, xs, rel, o, es, ep, h1, h2, h3, h4, h5⟩ := rawN_rd I ra
  obtain ⟨z', hd', xs', rel', o', es', ep', h1', h2', h3', h4', h5'⟩ := rawN_rd I rb
  have l' : es'.size = 0 := by
    have e := congrArg List.length h4'
    rw [List.length_map, ← Paired.length rel'] at e
    simpa using e
  have l : es.size = ks.length := by
    have e := congrArg List.length h4
    rw [List.length_map, ← Paired.length rel] at e
    simpa using e
  refine wpAny_richCompare_same_room (op := .Eq) t1 t2 PySem.F.slot_dict_eq (wpAny_call_entry PySem.F.slot_dict_eq t1 PySem.F.entry_dict_eq ?_ (PySem.F.args_dict_eq_2 _ _)) (by omega)
  show wpAny _ _ (Builtin.Dict.dictSlotArgs "__eq__" ⟨[.ref a, .ref b], []⟩ >>= _) _ _ s
  refine wpAny_bind ?_
  unfold Builtin.Dict.dictSlotArgs
  refine wpAny_bind (wpAny_notOrdered_dict t1 ?_)
  show wpAny _ _ (pure (Value.ref a, Value.ref b)) _ _ s
  refine wpAny_pure ?_
  refine wpAny_bind (wpAny_isInstance (T := "dict") t2 PySem.F.sub_dict_dict ?_)
  simp only [Bool.not_true, Bool.false_eq_true, if_false]
  refine wpAny_bind (wpAny_pure (wpAny_bind (wpAny_pure ?_)))
  refine wpAny_bind (samePairs_empty hd hd' h1 h3 h1' h3' l' ?_)
  refine wpAny_pure ⟨_, rfl, ?_, ?_⟩
  · exact fun x => nomatch x
  · refine ⟨_, H, I.tok _, ?_, q⟩
    rw [l]
    cases ks <;> rfl
theorem op_neE (hu : X.A.units + 64 < cLine) (hw : X.w = w := by rfl) : OpR X (compareOp .NotEq) (rEmptyN w true) := by
  subst hw
  intro pins s σ H x y v u Q I rx ry h
  obtain ⟨a, b, ks, ex, ey, ra, rb, q⟩ := h
  subst ex ey
  obtain rfl : v = Value.ref a := rx
  obtain rfl : u = Value.ref b := ry
  obtain ⟨t1, _, _⟩ := rawN_ty I ra
  obtain ⟨t2, _, _⟩ := rawN_ty I rb
  obtain ⟨z, hd, xs, rel, o, es, ep, h1, h2, h3, h4, h5⟩ := rawN_rd I ra
  obtain ⟨z', hd', xs', rel', o', es', ep', h1', h2', h3', h4', h5'⟩ := rawN_rd I rb
  have l' : es'.size = 0 := by
    have e := congrArg List.length h4'
    rw [List.length_map, ← Paired.length rel'] at e
    simpa using e
  have l : es.size = ks.length := by
    have e := congrArg List.length h4
    rw [List.length_map, ← Paired.length rel] at e
    simpa using e
  refine wpAny_richCompare_same_room (op := .NotEq) t1 t2 PySem.F.slot_dict_ne (wpAny_call_entry PySem.F.slot_dict_ne t1 PySem.F.entry_dict_ne ?_ (PySem.F.args_dict_ne_2 _ _)) (by omega)
  show wpAny _ _ (Builtin.Dict.dictSlotArgs "__ne__" ⟨[.ref a, .ref b], []⟩ >>= _) _ _ s
  refine wpAny_bind ?_
  unfold Builtin.Dict.dictSlotArgs
  refine wpAny_bind (wpAny_notOrdered_dict t1 ?_)
  show wpAny _ _ (pure (Value.ref a, Value.ref b)) _ _ s
  refine wpAny_pure ?_
  refine wpAny_bind (wpAny_isInstance (T := "dict") t2 PySem.F.sub_dict_dict ?_)
  simp only [Bool.not_true, Bool.false_eq_true, if_false]
  refine wpAny_bind (wpAny_pure (wpAny_bind (wpAny_pure ?_)))
  refine wpAny_bind (samePairs_empty hd hd' h1 h3 h1' h3' l' ?_)
  refine wpAny_pure ⟨_, rfl, ?_, ?_⟩
  · exact fun x => nomatch x
  · refine ⟨_, H, I.tok _, ?_, q⟩
    rw [l]
    cases ks <;> rfl
theorem vals_of : ∀ {xs : List V} {us : List Value}, xs.length = us.length → (∀ (i : Nat) (x : V) (u : Value), xs[i]? = some x → us[i]? = some u → RelV x u) → Vals xs us
  | [], [], _, _ => .nil
  | [], _ :: _, h, _ => by simp at h
  | _ :: _, [], h, _ => by simp at h
  | x :: xs, u :: us, h, k => .cons (k 0 x u rfl rfl) (vals_of (by simpa using h) fun i y v a b => k (i + 1) y v (by simpa using a) (by simpa using b))
/-- list(d) -/
def rListN (w : World) : List V → Hp → VK → Prop := fun xs H Q => ∃ a ks, xs = [.ref a] ∧ Rd H a (DicN w a ks) ∧ ∀ l, H l = none → Q (.ref l) (upd H l (.lst (ks.map fun p => V.ref p.2.1)))
theorem call_listN (hh : X.A.handled = none) (hw : X.w = w := by rfl) : CallR X (.type "list") (rListN w) := by
  subst hw
  intro pins s σ H xs us Q I r h
  obtain ⟨a, ks, rfl, ra, q⟩ := h
  obtain ⟨u, rfl, rx⟩ := vals1 r
  obtain rfl : u = Value.ref a := rx
  obtain ⟨z, hd, ys, rel, o, es, ep, h1, h2, h3, h4, h5⟩ := rawN_rd I ra
  have l : es.size = ks.length := by
    have e := congrArg List.length h4
    rw [List.length_map, ← Paired.length rel] at e
    simpa using e
  refine PySem.W.kdl_call (PySem.KdlSrc.rawDict hd) hh ⟨o, h1, h2, h3⟩ (by omega) fun h' tk acc' c' kp e hacc => ?_
  refine ⟨.ref s.heap.objs.size, _, I.laid (t' := tk) kp (Nat.le_refl _) (show ObjOk X.prog X.w _ h' _ (.lst (ks.map fun p => V.ref p.2.1)) from ⟨by rw [List.length_map]; exact z, acc'.toList, c', ?_, by rw [Array.toArray_toList]; exact e⟩), rfl, q _ (I.hok.fresh (Nat.le_refl _))⟩
  obtain ⟨n1, n2⟩ := hacc
  refine vals_of (by have h0 : acc'.toList.length = acc'.size := Array.length_toList; rw [List.length_map, h0, n1, l]) fun i y v hy hv => ?_
  rw [List.getElem?_map] at hy
  obtain ⟨p, hp, rfl⟩ := Option.map_eq_some_iff.mp hy
  obtain ⟨hi, rfl⟩ := n2 i v (by rw [← Array.getElem?_toList]; exact hv)
  obtain ⟨x, hx, hr⟩ := pair_at rel hp
  have e1 : es.toList[i]? = some es[i] := by rw [Array.getElem?_toList]; exact Array.getElem?_eq_getElem hi
  rw [h4, List.getElem?_map, hx] at e1
  have e2 : entN X.w x = es[i] := Option.some.inj e1
  show es[i].key = Value.ref p.2.1
  rw [← e2, hr.2.1]
  rfl
end
section
variable {X : Cx} {a e i0 : Expr} {es : List Expr} {pos : Pos} {p q : WE} {pa : WA} {K : PySem.W.Frag} {w : World} {x : Str} {xp apos cpos : Pos}
abbrev wPopD (i : Nat) (p : WE) : WS := fun E Γ => slotM Γ i fun mk es => p Γ fun x => keyW x fun k => (getE es k).isSome = true ∧ E.nx (Γ.set i (some (mk (dropE es k))))
theorem qs_popD (i : Nat) (hu : X.A.units + 64 < cLine) (hk : QE X a p) (hN : X.N[i]? = some x := by rfl) (hv : Vis X.env.scope x := by first | exact Or.inl rfl | exact Or.inr (Or.inl rfl) | exact Or.inr (Or.inr rfl)) (hd : (x == ("__debug__" : Str)) = false := by decide) (hcd : (x == ("__classdict__" : Str)) = false := by decide)
    (hbase : attributeBase (.Name x xp) "pop" X.env (eval (.Name x xp) X.env) = eval (.Name x xp) X.env := by rfl)
    (hfew : ((backTo cpos (starEach [a] X.env)).all (fun x => !x.1) && (backToKw cpos (keywordEach [] X.env)).all (fun x => x.1.isSome)
      && decide ([a].length + ([] : List Keyword).length + (if ([] : List Keyword).isEmpty then 0 else 1) < 30)) = true := by rfl)
    (hline : (apos.endLine == cpos.line) = true := by rfl) (hs : starEach [a] X.env = (false, eval a X.env) :: starEach [] X.env := by rfl) (hplain : (backTo cpos (starEach [] X.env)).any (·.1) = false := by rfl)
    (hsw : swapsWith (.Call (.Attribute (.Name x xp) "pop" apos) [a] [] cpos) none pos.line X.env = pure false := by rfl) :
    QS X (.Expr (.Call (.Attribute (.Name x xp) "pop" apos) [a] [] cpos) pos) (wPopD i p) := let ⟨_, a1, a2⟩ := hk.ex;
  ⟨_, ps_expr (pe_bmN PySem.F.plainAttrs_dict PySem.F.slot_dict_pop PySem.F.type_dict_pop (mt_popN hu rfl rfl) (pe_var hN hv hd hcd) (pa_cons a1 pa_nil hs) hbase hfew hline hs hplain) hsw, fun C σ H ex Γ e1 e2 R E' hp E s => by
  obtain ⟨mk, es, g, hm, hp⟩ := slotM_of hp
  obtain ⟨a, ks0, sv, h2, h3, h4, _⟩ := R.own g hm
  refine ⟨_, sv, ⟨a, ks0, rfl, .inl (e2 ▸ h4)⟩, a2 C σ H ex Γ e1 e2 R _ hp _ fun y dy H1 R1 g1 d1 q1 => ?_⟩
  obtain ⟨k0, rfl, kd, kt, hs, q1⟩ := q1
  obtain ⟨a', ks, sv', h2', h3', h4', h4m, h5, hA⟩ := R1.own g hm
  rw [sv] at sv'
  cases sv'
  obtain ⟨b, rfl, kb, kb'⟩ := key_at (mask_le H1 ex) d1 kt kd
  rcases ent_get h5 k0 with ⟨_, h7⟩ | ⟨v, d, h6, h7, h8⟩
  · rw [h7] at hs; cases hs
  have put := R1.putX (x' := mk (dropE es k0)) (o := DicN C.w a (dropN ks k0)) g (hm.mut es) sv h2' h3' h4m (nt_dic _ _ _) fun em => hA _ _ _ upd_same (by rw [em]; exact ent_drop h5 k0)
  refine ⟨a, b, ks, k0, v, rfl, rfl, e2 ▸ h4', e1 ▸ ent_keys (mask_le H1 ex) h5, e1 ▸ kb, h6, ?_⟩
  rw [← e2]
  exact s.nx _ _ ex _ put.1 (by rw [put.2]; exact g1.mask R) q1⟩
/-- d == {} as a test -/
abbrev wEmptyD (i : Nat) (n : Bool) : WE := fun Γ Q => slotD Γ i fun es => Q (.bool (if n = true then !es.isEmpty else es.isEmpty))
theorem le_emptyD (i : Nat) (n : Bool) : LE K w (tOp (rEmptyN w n) (tVar i) (tDNewN w)) (wEmptyD i n) := fun C σ H ex Γ e1 e2 R Q' hp Q k => by
  obtain ⟨x0, es, g, hx0, hp⟩ := slotD_of hp
  obtain ⟨a, ks, sv, h2, h3, h4, h5⟩ := R.dict g hx0
  refine ⟨_, sv, fun b nb => ⟨a, b, ks, rfl, rfl, ?_, .inl upd_same, ?_⟩⟩
  · have ne : a ≠ b := fun z => by
      subst z
      rcases h4 with h4 | ⟨o, h4⟩ <;> (rw [nb] at h4; cases h4)
    unfold Rd
    rw [upd_ne ne]
    exact e2 ▸ h4
  · have l : ks.isEmpty = es.isEmpty := by
      have := ent_len h5
      cases ks <;> cases es <;> simp at this ⊢
    rw [l]
    exact k _ _ _ (R.new nb _) (.of (same_new nb _)) (.bl _) hp
theorem qt_emptyD (i : Nat) (n : Bool) {op : CmpOp} (ho : OpR X (compareOp op) (rEmptyN X.w n)) {dpos : Pos} (hN : X.N[i]? = some x := by rfl) (hv : Vis X.env.scope x := by first | exact Or.inl rfl | exact Or.inr (Or.inl rfl) | exact Or.inr (Or.inr rfl)) (hd : (x == ("__debug__" : Str)) = false := by decide) (hcd : (x == ("__classdict__" : Str)) = false := by decide) (hm : behindInMarks op (.Dict [] [] dpos) = false := by rfl) :
    QT X (.Compare (.Name x xp) [op] [.Dict [] [] dpos] pos) (wT (wEmptyD i n)) := ⟨_, pt_cmpR ho (pe_var hN hv hd hcd) (pe_dnewN rfl) hm, lt_test (le_emptyD i n)⟩
/-- list(d) -/
abbrev wListD (i : Nat) : WA := fun Γ Q => slotD Γ i fun es => Q (es.map (·.1.data))
theorem ent_data {C : Ctx} {σ : L2.St} {H : Hp} {ex : List Addr} {Γ : VEnv} (R : Rel C σ H ex Γ) {ks : Ents} {es : List (NK × PyData)} (h : Paired (EntAt C.K (Mask H ex)) ks es) : DdAll C.K (Mask H ex) (ks.map fun p => V.ref p.2.1) (es.map (·.1.data)) := by
  induction h with
  | nil => exact .nil
  | @cons p q ps qs r t ih =>
    refine .cons ?_ ih
    show Dd C.K (Mask H ex) (V.ref p.2.1) q.1.data
    rw [← r.1]
    exact R.free (noL_key _) (dpp_mono (mask_le H ex) r.2.1.dp)
theorem q_listD (i : Nat) (hh : X.A.handled = none) {p1 : Pos} (hm : X.mg "list" = none) (hN : X.N[i]? = some x := by rfl) (hg : Gl X "list" := by rfl) (hv : Vis X.env.scope x := by first | exact Or.inl rfl | exact Or.inr (Or.inl rfl) | exact Or.inr (Or.inr rfl)) (hd : (x == ("__debug__" : Str)) = false := by decide) (hcd : (x == ("__classdict__" : Str)) = false := by decide)
    (hb : bootBuiltins "list" = some (.type "list") := by decide +kernel)
    (he : starEach [.Name x xp] X.env = (false, eval (.Name x xp) X.env) :: starEach [] X.env := by rfl) (hpl : (backTo pos (starEach [] X.env)).any (·.1) = false := by rfl) : QN X (.Call (.Name "list" p1) [.Name x xp] [] pos) (wListD i) :=
  ⟨_, pe_callTy (call_listN hh rfl) hg hm hb (pa_cons (pe_var hN hv hd hcd) pa_nil he) (by decide) (by decide) he hpl, fun C σ H ex Γ e1 e2 R Q' hp Q k => by
  obtain ⟨x0, es, g, hx0, hp⟩ := slotD_of hp
  obtain ⟨a, ks, sv, h2, h3, h4, h5⟩ := R.dict g hx0
  refine ⟨_, sv, a, ks, rfl, e2 ▸ h4, fun l nl => ?_⟩
  exact k l _ _ _ (R.new nl _) (.of (same_new nl _)) nl upd_same (dpa_mono (mask_own R nl _) (ent_data R h5)) hp⟩
end
/-! ### defs that change the dict that they are given first -/
abbrev PSpM := List (NK × PyData) → List PyData → (List (NK × PyData) → Prop) → Prop
def spM (K : PySem.W.Frag) (w : World) (F : PSpM) : Sp := fun vs H Q _ => ∃ (C : Ctx) (a : Addr) (ks : Ents) (es : List (NK × PyData)) (us : List V) (ds : List PyData) (Q' : List (NK × PyData) → Prop),
  C.K = K ∧ C.w = w ∧ vs = .ref a :: us ∧ a ∈ C.ex0 ∧ a ∉ C.dk ∧ H a = some (DicN C.w a ks) ∧ Paired (EntAt C.K (Mask H C.ex0)) ks es ∧ DdAll C.K (Mask H C.ex0) us ds ∧ (∀ a ∈ C.ex0, ∃ o, H a = some o ∧ NT o) ∧ C.dok H ∧ F es ds Q' ∧
  ∀ ks' es' H', Q' es' → (∀ b o, b ≠ a → b ∉ C.dk → H b = some o → H' b = some o) → H' a = some (DicN C.w a ks') → Paired (EntAt C.K (Mask H' C.ex0)) ks' es' → C.dok H' → (∀ b ∈ C.dk, ∃ o, H' b = some o ∧ NT o) → Q .non H'
def Ctx.callM (C : Ctx) (H : Hp) (a : Addr) (ha : a ∈ C.ex0) : Ctx := { C with H0 := H, M := a :: C.dk, dkM := fun _ h => List.mem_cons_of_mem _ h, ME := fun b h => (List.mem_cons.mp h).elim (fun z => z ▸ ha) (C.dkE b) }
theorem startM {C : Ctx} {H : Hp} {N : List Str} {a : Addr} {ks : Ents} {es : List (NK × PyData)} {us : List V} {ds : List PyData} (ha : a ∈ C.ex0) (hk : a ∉ C.dk) (e : H a = some (DicN C.w a ks)) (h : Paired (EntAt C.K (Mask H C.ex0)) ks es) (hu : DdAll C.K (Mask H C.ex0) us ds)
    (hA : ∀ a ∈ C.ex0, ∃ o, H a = some o ∧ NT o) (hd : C.dok H) : Rel (C.callM H a ha) (L2.start N (.ref a :: us)) H C.ex0 (startE N (.pdt a es :: ds.map .val)) := by
  have l := dpa_len hu
  have at_ : ∀ (i : Nat) (x : AV), (startE N (.pdt a es :: ds.map .val))[i]? = some (some x) → (i = 0 ∧ x = .pdt a es) ∨ ∃ j d, i = j + 1 ∧ ds[j]? = some d ∧ x = .val d := fun i x q => by
    unfold startE at q
    cases i with
    | zero =>
      have : some (some (AV.pdt a es)) = some (some x) := q
      cases this
      exact .inl ⟨rfl, rfl⟩
    | succ j =>
      have q : ((ds.map AV.val).map some ++ List.replicate (N.length - (AV.pdt a es :: ds.map AV.val).length) none)[j]? = some (some x) := q
      by_cases c : j < ds.length
      · rw [List.getElem?_append_left (by rw [List.length_map, List.length_map]; exact c), List.getElem?_map, List.getElem?_map] at q
        obtain ⟨y, ey, q⟩ := Option.map_eq_some_iff.mp q
        obtain ⟨d, ed, rfl⟩ := Option.map_eq_some_iff.mp ey
        cases q
        exact .inr ⟨j, d, rfl, ed, rfl⟩
      · rw [List.getElem?_append_right (by rw [List.length_map, List.length_map]; omega)] at q
        have := (List.mem_replicate.mp (List.mem_of_getElem? q)).2
        cases this
  refine ⟨?_, fun i x q => ?_, fun i j x y b hn h1 h2 m1 m2 _ _ => ?_, fun _ h => h, hA, fun _ _ _ e => e, hd⟩
  · unfold startE L2.start
    simp [l]
  · rcases at_ i x q with ⟨rfl, rfl⟩ | ⟨j, d, rfl, hd, rfl⟩
    · exact ⟨.ref a, rfl, ks, rfl, ha, hk, ⟨e, List.mem_cons_self⟩, h⟩
    · obtain ⟨v, hv, dv⟩ := dpa_at hu hd
      refine ⟨v, ?_, dv⟩
      unfold L2.start
      have hj : j < us.length := (List.getElem?_eq_some_iff.mp hv).1
      rw [List.getElem?_append_left (by rw [List.length_map]; exact Nat.succ_lt_succ hj), List.getElem?_map]
      show (us[j]?).map some = _
      rw [hv]
      rfl
  · rcases at_ i x h1 with ⟨rfl, rfl⟩ | ⟨i', d, rfl, _, rfl⟩
    · rcases at_ j y h2 with ⟨rfl, rfl⟩ | ⟨j', d', rfl, _, rfl⟩
      · exact hn rfl
      · exact m2
    · exact m1
section
variable {P : Program} {w : World} {K : PySem.W.Frag} {mg : Str → Option Value} {base : Heap}
theorem fnM {x qual : Str} {st : Stmt} {f : Addr} {fd : FuncData} {N ps : List Str} {k : Nat} {p : WS} (F : Fun K x qual st f fd) (S : FnScope N ps (defScope st)) (sp : PSpM) (len : ∀ es ds Q, sp es ds Q → ds.length + 1 = ps.length)
    (hbody : ∀ (cdv : Value) (A : Around) (outer : List Env) (s : Shared) (H : Hp) (E : XK), Quiet (A.deeper (envOfC qual (defScope st) s.heap.objs.size f cdv)) → Room k (A.deeper (envOfC qual (defScope st) s.heap.objs.size f cdv)) →
      QSs (cxOf CX0 P w K mg base N qual (defScope st) f cdv A outer s H E).nox (defBody st) p)
    (hsp : ∀ a es ds Q, sp es ds Q → p { nx := fun Γ => ∃ es', Γ[0]? = some (some (.pdt a es')) ∧ Q es', rt := fun _ _ => False } (startE N (.pdt a es :: ds.map .val))) : GFn P w K mg base (k + 1) f fd ps (spM K w sp) := by
  refine gfn_of F S (fun vs H Q E h => ?_) (fun cdv A outer s H vs Q E hq hr h => ?_)
  · obtain ⟨C, a, ks, es, us, ds, Q', _, _, rfl, _, _, _, _, hu, _, _, h, _⟩ := h
    rw [List.length_cons, dpa_len hu]
    exact len es ds Q' h
  · obtain ⟨C, a, ks, es, us, ds, Q', e1, e2, rfl, ha, hk, hH, hp, hu, hA, hd, h, k⟩ := h
    obtain ⟨t, b1, b2⟩ := (hbody cdv A outer s H E hq hr).ex
    refine ⟨t, b1, b2 (C.callM H a ha) _ H C.ex0 (startE N (.pdt a es :: ds.map .val)) e1 e2 (startM ha hk hH hp hu hA hd) _ (hsp a es ds Q' h) _ ⟨fun σ' H' ex' Γ' R' _ q => ?_, fun _ _ _ _ _ _ _ _ q => q.elim, fun _ _ _ _ _ _ q => q.elim, fun _ _ _ _ _ _ q => q.elim⟩⟩
    obtain ⟨es', g, q⟩ := q
    obtain ⟨v, sv, ks', rfl, h2, h3, h4, h5⟩ := R'.slot 0 _ g
    have sm : Same (Mask H' ex') (Mask H' C.ex0) := mask_same fun b o n e => ⟨fun z => n (R'.exs b z), e⟩
    refine k ks' es' H' q (fun b o nb nd e => R'.keep b o (fun z => ?_) e) h4.1 (paired_mono (fun _ _ => ent_mono sm) h5) R'.deck fun b hb => R'.all b (R'.exs b (C.dkE b hb))
    rcases List.mem_cons.mp z with z | z
    · exact nb z
    · exact nd z
end
section
variable {X : Cx} {a e : Expr} {es : List Expr} {pos : Pos} {p : WE} {pa : WA} {K : PySem.W.Frag} {w : World} {x y : Str}
abbrev wCallM (F : PSpM) (i : Nat) (p : WA) : WS := fun E Γ => slotM Γ i fun mk es => p Γ fun ds => F es ds fun es' => E.nx (Γ.set i (some (mk es')))
theorem ls_callM (i : Nat) {t : TA} {F : PSpM} (h : LA K w t pa) : LS K w (tDrop (tCall (spM K w F) [] E0 (tCons (tVar i) t))) (wCallM F i pa) := fun C σ H ex Γ e1 e2 R E' hp E s => by
  obtain ⟨mk, es, g, hm, hp⟩ := slotM_of hp
  obtain ⟨a, ks0, sv, _⟩ := R.own g hm
  refine ⟨_, sv, h C σ H ex Γ e1 e2 R _ hp _ fun vs ds H1 R1 g1 d1 q1 => ?_⟩
  obtain ⟨a', ks, sv', h2, h3, h4, h4m, h5, hA⟩ := R1.own g hm
  rw [sv] at sv'
  cases sv'
  show spM K w F ((.ref a :: vs) ++ []) H1 _ E0
  rw [List.append_nil]
  refine ⟨{ C with ex0 := ex, H0 := H1, M := C.dk, dkE := fun a h => R.exs a (C.dkE a h), dkM := fun _ h => h, ME := fun a h => R.exs a (C.dkE a h) }, a, ks, es, vs, ds, _, e1, e2, rfl, h2, h3, h4, h5, d1, R1.all, R1.deck, q1, fun ks' es' H' q hg hH' hp' hd hA' => ?_⟩
  have dn : ∀ b ∈ C.dk, b ≠ a := fun b hb z => h3 (z ▸ hb)
  have gr : Grow C H1 (upd H' a (DicN C.w a ks)) := fun b o nb eb => by
    by_cases c : b = a
    · subst c
      rw [upd_same, ← h4]
      exact eb
    · rw [upd_ne c]
      exact hg b o c nb eb
  have dk : C.dok (upd H' a (DicN C.w a ks)) := C.stab H' _ (fun b hb o eb => by rw [upd_ne (dn b hb)]; exact eb) hd
  have R2 := R1.grow gr dk fun b hb => by
    obtain ⟨o, eo, n⟩ := hA' b hb
    exact ⟨o, by rw [upd_ne (dn b hb)]; exact eo, n⟩
  have eH : upd (upd H' a (DicN C.w a ks)) a (DicN C.w a ks') = H' := by
    funext b
    by_cases c : b = a
    · subst c
      rw [upd_same, hH']
    · rw [upd_ne c, upd_ne c]
  have put := R2.putX (x' := mk es') (o := DicN C.w a ks') g (hm.mut es) sv h2 h3 h4m (nt_dic _ _ _) fun em => hA _ _ _ upd_same (by rw [eH]; exact hp')
  rw [eH] at put
  refine s.nx _ _ ex _ put.1 ((g1.mask R).trans (mask_same fun b o nb eb => ⟨nb, hg b o (fun z => nb (z ▸ h2)) (R1.nodk nb) eb⟩)) q
theorem qs_callM (i : Nat) {k : Nat} {f : Addr} {fd : FuncData} {ps : List Str} {sp : PSpM} {p1 xp cpos : Pos} (G : GFn X.prog X.w X.K X.mg X.base k f fd ps (spM X.K X.w sp)) (hq : Quiet X.A) (hr : Room k X.A) (hg : Gl X x) (hm : X.mg x = some (.ref f))
    (hk : PySem.W.keepIn X.K (.ref f) = true) (hb : Binds X.K fd ps []) (ha : QA X es pa) (hN : X.N[i]? = some y := by rfl) (hv : Vis X.env.scope y := by first | exact Or.inl rfl | exact Or.inr (Or.inl rfl) | exact Or.inr (Or.inr rfl)) (hd : (y == ("__debug__" : Str)) = false := by decide) (hcd : (y == ("__classdict__" : Str)) = false := by decide)
    (hdb : (x == ("__debug__" : Str)) = false := by decide)
    (he : starEach (.Name y xp :: es) X.env = (false, eval (.Name y xp) X.env) :: starEach es X.env := by rfl) (hpl : (backTo cpos (starEach es X.env)).any (·.1) = false := by rfl)
    (hsw : swapsWith (.Call (.Name x p1) (.Name y xp :: es) [] cpos) none pos.line X.env = pure false := by rfl) : QS X (.Expr (.Call (.Name x p1) (.Name y xp :: es) [] cpos) pos) (wCallM sp i pa) :=
  let ⟨_, a1, a2⟩ := ha.ex; ⟨_, ps_expr (pe_callG G hq hr hg hm hk hb .nil (pa_cons (pe_var hN hv hd hcd) a1 he) hdb he hpl) hsw, ls_callM i a2⟩
end
/-! ### walked in a comprehension: a dict that is read -/
def Ctx.lockM (C : Ctx) (a : Addr) : Ctx := { C with ex0 := a :: C.ex0, M := a :: C.M, dkE := fun b h => List.mem_cons_of_mem _ (C.dkE b h), dkM := fun b h => List.mem_cons_of_mem _ (C.dkM b h), ME := fun b h => (List.mem_cons.mp h).elim (fun z => z ▸ List.mem_cons_self) (fun z => List.mem_cons_of_mem _ (C.ME b z)) }
section
variable {C : Ctx} {σ : L2.St} {H H' : Hp} {ex : List Addr} {Γ : VEnv}
theorem AvAt.lockM {a : Addr} {ks : Ents} {od : Obj} {v : V} {x : AV} (h : AvAt C H ex v x) (em : Mask H' ex = Mask H ex) (ne : ∀ b, v = .ref b → x.mut → b ≠ a) (hoth : ∀ b, b ≠ a → H' b = H b) (ha : H' a = some (.frz od (DicN C.w a ks)))
    (hold : H a = some (DicN C.w a ks) ∨ H a = H' a) : AvAt (C.lockM a) H' ex v x := by
  have mine : ∀ b, b ≠ a → Mine C b → Mine (C.lockM a) b := fun b n m => ⟨fun z => (List.mem_cons.mp z).elim n m.1, m.2⟩
  cases x with
  | val d =>
    show Dd C.K (Mask H' ex) v d
    rw [em]
    exact h
  | lst ds =>
    obtain ⟨b, xs, h1, h2, h3, h4, h5⟩ := h
    have n := ne b h1 True.intro
    exact ⟨b, xs, h1, h2, mine b n h3, by rw [hoth b n]; exact h4, by rw [em]; exact h5⟩
  | dct lk es =>
    obtain ⟨b, ks', h1, h2, h3, h4, h5⟩ := h
    refine ⟨b, ks', h1, h2, h3, ?_, by rw [em]; exact h5⟩
    cases lk with
    | true =>
      rw [if_pos rfl] at h4 ⊢
      by_cases n : b = a
      · subst n
        rcases h4 with h4 | ⟨o, h4⟩
        · rcases hold with hold | hold
          · refine .inr ⟨od, ?_⟩
            rw [h4] at hold
            have z : DicN C.w b ks' = DicN C.w b ks := Option.some.inj hold
            show H' b = some (.frz od (DicN C.w b ks'))
            rw [ha, z]
          · rw [h4, ha] at hold
            cases hold
        · rcases hold with hold | hold
          · rw [h4] at hold
            cases hold
          · exact .inr ⟨o, by rw [← hold]; exact h4⟩
      · unfold Rd at h4 ⊢
        rw [hoth b n]
        exact h4
    | false =>
      rw [if_neg Bool.false_ne_true] at h4 ⊢
      have n := ne b h1 rfl
      exact ⟨by rw [hoth b n]; exact h4.1, h4.2.elim (fun m => .inl (mine b n m)) (fun m => .inr (List.mem_cons_of_mem _ m))⟩
  | dlk es =>
    obtain ⟨b, ks', o, h1, h2, h3, h4, h5⟩ := h
    by_cases n : b = a
    · subst n
      refine ⟨b, ks', o, h1, h2, ⟨h3.1, .inr List.mem_cons_self⟩, ?_, by rw [em]; exact h5⟩
      rcases hold with hold | hold
      · rw [h4] at hold
        cases hold
      · rw [← hold]
        exact h4
    · exact ⟨b, ks', o, h1, h2, ⟨h3.1, h3.2.elim (fun m => .inl (mine b n m)) (fun m => .inr (List.mem_cons_of_mem _ m))⟩, by rw [hoth b n]; exact h4, by rw [em]; exact h5⟩
  | pdt b es =>
    obtain ⟨ks', h1, h2, h3, h4, h5⟩ := h
    have n := ne b h1 True.intro
    exact ⟨ks', h1, h2, h3, ⟨by rw [hoth b n]; exact h4.1, List.mem_cons_of_mem _ h4.2⟩, by rw [em]; exact h5⟩
  | deck => exact h
  | raw u => exact h
theorem Rel.lockM (R : Rel C σ H ex Γ) {i : Nat} {a : Addr} {ks : Ents} {es : List (NK × PyData)} {od : Obj} (g : Γ[i]? = some (some (.dct true es))) (sv : σ[i]? = some (some (.ref a))) (h2 : a ∈ ex) (hk : a ∉ C.dk) (hoth : ∀ b, b ≠ a → H' b = H b) (ha : H' a = some (.frz od (DicN C.w a ks)))
    (hold : H a = some (DicN C.w a ks) ∨ H a = H' a) (h5 : Paired (EntAt C.K (Mask H ex)) ks es) : Rel (C.lockM a) σ H' ex (Γ.set i (some (.dlk es))) := by
  have em : Mask H' ex = Mask H ex := by
    funext b
    by_cases c : b ∈ ex
    · rw [mask_in c, mask_in c]
    · rw [mask_out c, mask_out c, hoth b (fun z => c (z ▸ h2))]
  refine ⟨by rw [List.length_set]; exact R.len, fun j y e' => ?_, fun j k y z b hn h1 h2 m1 m2 s1 s2 => ?_, fun b hb => ?_, fun b hb => ?_, fun b u nb eb => ?_, ?_⟩
  · rcases getSet e' with ⟨rfl, e', l⟩ | ⟨c, e'⟩
    · cases e'
      exact ⟨.ref a, sv, a, ks, od, rfl, h2, ⟨hk, .inr List.mem_cons_self⟩, ha, by rw [em]; exact h5⟩
    · obtain ⟨u, h1, h3⟩ := R.slot j y e'
      exact ⟨u, h1, h3.lockM em (fun b eb m z => R.apart j i _ _ a (fun z => c z.symm) e' g m True.intro (by rw [h1, eb, z]) sv) hoth ha hold⟩
  · rcases getSet h1 with ⟨rfl, e1, l⟩ | ⟨c, e1⟩
    · cases e1
      exact m1
    · rcases getSet h2 with ⟨rfl, e2, l'⟩ | ⟨c', e2⟩
      · cases e2
        exact R.apart j i _ _ b hn e1 g m1 True.intro s1 s2
      · exact R.apart j k y z b hn e1 e2 m1 m2 s1 s2
  · rcases List.mem_cons.mp hb with rfl | hb
    · exact h2
    · exact R.exs b hb
  · by_cases c : b = a
    · subst c
      exact ⟨_, ha, fun _ q => (by cases q), fun _ _ q => (by cases q)⟩
    · rw [hoth b c]
      exact R.all b hb
  · have c : b ≠ a := fun z => nb (z ▸ List.mem_cons_self)
    rw [hoth b c]
    exact R.keep b u (fun z => nb (List.mem_cons_of_mem _ z)) eb
  · exact C.stab H _ (fun b hb u eb => by rw [hoth b (fun (z : b = a) => hk (z ▸ hb))]; exact eb) R.deck
end
section
variable {X : Cx} {e : Expr} {pa : WA} {K : PySem.W.Frag} {w : World}
def slotR (Γ : VEnv) (i : Nat) (Q : List (NK × PyData) → Prop) : Prop := match Γ[i]? with | some (some (.dct true es)) => Q es | _ => False
theorem slotR_of {Γ : VEnv} {i : Nat} {Q : List (NK × PyData) → Prop} (h : slotR Γ i Q) : ∃ es, Γ[i]? = some (some (.dct true es)) ∧ Q es := by
  unfold slotR at h
  split at h
  · rename_i es e; exact ⟨es, e, h⟩
  · exact h.elim
theorem pe_orE {e : Expr} {t t' : TE} (h : PE X e t) (h' : PE X e t') : PE X e (fun σ H Q => t σ H Q ∨ t' σ H Q) := ⟨fun pins s σ H Q I q => q.elim (h.run pins s σ H Q I) (h'.run pins s σ H Q I)⟩
abbrev wLockR (i : Nat) (p : WA) : WA := fun Γ Q => slotR Γ i fun es => p (Γ.set i (some (.dlk es))) Q
theorem q_lockR (i : Nat) (h : QN X e pa) : QN X e (wLockR i pa) := let ⟨_, a1, a2⟩ := h.ex; ⟨_, pe_orE (pe_lock a1) a1, fun C σ H ex Γ e1 e2 R Q' hp Q k => by
  obtain ⟨es, g, hp⟩ := slotR_of hp
  obtain ⟨a, ks, sv, h2, h3, h4, h5⟩ := R.dict g (.inl ⟨true, rfl⟩)
  have done : ∀ (od : Obj) (H1 : Hp), (∀ b, b ≠ a → H1 b = H b) → H1 a = some (.frz od (DicN C.w a ks)) → (H a = some (DicN C.w a ks) ∨ H a = H1 a) → ∀ (l : Addr) (xs : List V) (ds : List PyData) (H' : Hp), Grow C H1 H' → H1 l = none → H' l = some (.lst xs) → DdAll C.K (Mask H' (l :: ex)) xs ds → C.dok H' → (∀ b ∈ C.dk, ∃ o, H' b = some o ∧ NT o) → Q' ds →
      (H a = some (DicN C.w a ks) → H' a = some (.frz od (DicN C.w a ks)) ∧ Q (.ref l) (upd H' a (DicN C.w a ks))) ∧ (H a = H1 a → Q (.ref l) H') := fun od H1 hoth ha hold l xs ds H' g' nl el hd dok hA q => by
    have fa : H' a = some (.frz od (DicN C.w a ks)) := g' a _ h3 ha
    have la : l ≠ a := fun z => by rw [z, ha] at nl; cases nl
    have nl0 : H l = none := by rw [← hoth l la]; exact nl
    have dn : ∀ b ∈ C.dk, b ≠ a := fun b hb z => h3 (z ▸ hb)
    refine ⟨fun ho => ⟨fa, ?_⟩, fun ho => ?_⟩
    · have gr : Grow C H (upd H' a (DicN C.w a ks)) := fun b o nb eb => by
        by_cases c : b = a
        · subst c
          rw [upd_same, ← ho]
          exact eb
        · rw [upd_ne c]
          exact g' b o nb (by rw [hoth b c]; exact eb)
      refine k l xs ds _ (R.grow gr (C.stab H' _ (fun b hb o eb => by rw [upd_ne (dn b hb)]; exact eb) dok) fun b hb => ?_) gr nl0 (by rw [upd_ne la]; exact el) ?_ q
      · obtain ⟨o, eo, n⟩ := hA b hb
        exact ⟨o, by rw [upd_ne (dn b hb)]; exact eo, n⟩
      · rw [mask_upd (List.mem_cons_of_mem _ h2)]
        exact hd
    · have gr : Grow C H H' := fun b o nb eb => by
        by_cases c : b = a
        · subst c
          rw [ho] at eb
          exact g' b o nb eb
        · exact g' b o nb (by rw [hoth b c]; exact eb)
      exact k l xs ds _ (R.grow gr dok hA) gr nl0 el hd q
  rcases h4 with h4 | ⟨od, h4⟩
  · refine .inl ⟨a, _, h4, True.intro, fun od => ?_⟩
    have hoth : ∀ b, b ≠ a → upd H a (.frz od (DicN C.w a ks)) b = H b := fun b n => upd_ne n
    refine a2 (C.lockM a) σ _ ex _ e1 e2 (R.lockM g sv h2 h3 hoth upd_same (.inl h4) h5) _ hp _ fun l xs ds H' R' g' nl el hd q => ?_
    exact (done od _ hoth upd_same (.inl h4) l xs ds H' g' nl el hd R'.deck (fun b hb => R'.all b (R'.exs b (List.mem_cons_of_mem _ (C.dkE b hb)))) q).1 h4
  · refine .inr ?_
    refine a2 (C.lockM a) σ _ ex _ e1 e2 (R.lockM g sv h2 h3 (fun _ _ => rfl) h4 (.inr rfl) h5) _ hp _ fun l xs ds H' R' g' nl el hd q => ?_
    exact (done od H (fun _ _ => rfl) h4 (.inr rfl) l xs ds H' g' nl el hd R'.deck (fun b hb => R'.all b (R'.exs b (List.mem_cons_of_mem _ (C.dkE b hb)))) q).2 rfl⟩
end
end PV
namespace PV
open PySem PySem.Spec PyProof.Rows L2 RZ StX SrtO Kw KL
/-! ### len(d), dict(pairs) -/
section
variable {X : Cx} {w : World} {K : PySem.W.Frag}
def rLenN (w : World) : List V → Hp → VK → Prop := fun xs H Q => ∃ a ks, xs = [.ref a] ∧ Rd H a (DicN w a ks) ∧ Q (.int (ks.length : Int)) H
theorem call_lenN (hw : X.w = w := by rfl) : CallR X (.builtin "len") (rLenN w) := by
  subst hw
  intro pins s σ H xs us Q I r h
  obtain ⟨a, ks, rfl, ra, q⟩ := h
  obtain ⟨u, rfl, rx⟩ := vals1 r
  obtain rfl : u = Value.ref a := rx
  obtain ⟨z, hd, ys, rel, o, es, ep, h1, h2, h3, h4, h5⟩ := rawN_rd I ra
  have l : es.size = ks.length := by
    have e := congrArg List.length h4
    rw [List.length_map, ← Paired.length rel] at e
    simpa using e
  have z2 : es.size ≤ sizeLine := by omega
  refine PyProof.Rows.call_len_slot (n := (es.size : Int)) ⟨o, h1, h2.1⟩ PySem.F.slot_dict_len (fun Q' hq => call_len_raw hd ⟨o, h1, h2, h3⟩ hq) (by omega) (by rw [sizeLine_eq] at z2; omega) ?_
  rw [l]
  exact ⟨.int _, H, I.tok _, ⟨_, rfl⟩, q⟩
/-- the pairs of a list, as a dict's entries -/
def PairOf (K : PySem.W.Frag) (H : Hp) (t : V) (p : NK × Addr × V) : Prop := ∃ T, t = .ref T ∧ SqT K H T [.ref p.2.1, p.2.2]
def foldN (ks : Ents) : Ents := ks.foldl (fun acc p => putN acc p.1 p.2.1 p.2.2) []
def rDictN (K : PySem.W.Frag) (w : World) : List V → Hp → VK → Prop := fun xs H Q => ∃ (l : Addr) (ts : List V) (ks : Ents), xs = [.ref l] ∧ SqL K H l ts ∧ Paired (PairOf K H) ts ks ∧ KeysN K H ks ∧ ks.length ≤ sizeLine ∧
  ∀ p, H p = none → Q (.ref p) (upd H p (DicN w p (foldN ks)))
theorem entR_fold {ks : Ents} {xs : List (NK × Addr × Value)} (r : Paired EntR ks xs) : ∀ {acc : Ents} {acc' : List (NK × Addr × Value)}, Paired EntR acc acc' → Paired EntR (ks.foldl (fun acc p => putN acc p.1 p.2.1 p.2.2) acc) (storedAllH acc' xs) := by
  induction r with
  | nil => exact fun h => h
  | @cons p q ps qs h t ih =>
    intro acc acc' ha
    obtain ⟨h1, h2, h3⟩ := h
    show Paired EntR (ps.foldl _ (putN acc p.1 p.2.1 p.2.2)) (storedAllH (storedH acc' q.1 q.2.1 q.2.2) qs)
    rw [h1, h2]
    exact ih (entR_put ha q.1 q.2.1 h3)
theorem foldN_len (ks : Ents) : (foldN ks).length ≤ ks.length := by
  have go : ∀ (ks acc : Ents), (ks.foldl (fun acc p => putN acc p.1 p.2.1 p.2.2) acc).length ≤ acc.length + ks.length := by
    intro ks
    induction ks with
    | nil => intro acc; exact Nat.le_refl _
    | cons p r ih =>
      intro acc
      have h1 := ih (putN acc p.1 p.2.1 p.2.2)
      have h2 := putN_len acc p.1 p.2.1 p.2.2
      rw [List.length_cons]
      show (r.foldl _ (putN acc p.1 p.2.1 p.2.2)).length ≤ _
      omega
  have := go ks []
  simpa [foldN] using this
theorem call_dictN (hh : X.A.handled = none) (hu : X.A.units + 64 < cLine) (hw : X.w = w := by rfl) (hK : X.K = K := by rfl) : CallR X (.type "dict") (rDictN K w) := by
  subst hw hK
  intro pins s σ H xs us Q I r h
  obtain ⟨l, ts, ks, rfl, hq, hp, hk, hz, q⟩ := h
  obtain ⟨u, rfl, rx⟩ := vals1 r
  obtain rfl : u = Value.ref l := rx
  obtain ⟨its, rv, pl, hzl⟩ := I.list hq
  obtain ⟨o, n, ho, hc, hd, hdat⟩ := pl
  -- the pairs, as they stand
  have got : ∀ {ts : List V} {ks : Ents}, Paired (PairOf X.K H) ts ks → ∀ {its : List Value}, Vals ts its → ∃ (ps : List (NK × Addr × Value)) (Ts : List Addr), Paired EntR ks ps ∧ its = Ts.map Value.ref ∧ Ts.length = ps.length ∧ ∀ (j : Nat) (T : Addr) (p : NK × Addr × Value), Ts[j]? = some T → ps[j]? = some p → PairAt s.heap T (.ref p.2.1) p.2.2 := by
    intro ts ks hp
    induction hp with
    | nil =>
      intro its rv
      cases rv
      exact ⟨[], [], .nil, rfl, rfl, fun j T p h => by simp at h⟩
    | @cons t k tr kr ht _ ih =>
      intro its rv
      cases rv with
      | cons r1 r2 =>
        obtain ⟨ps, Ts, h1, h2, h3, h4⟩ := ih r2
        obtain ⟨T, rfl, hT⟩ := ht
        obtain ⟨vs, rvs, it, _⟩ := I.tuple hT
        obtain ⟨u1, u2, rfl, ru1, ru2⟩ := vals2 rvs
        obtain rfl : u1 = Value.ref k.2.1 := ru1
        refine ⟨(k.1, k.2.1, u2) :: ps, T :: Ts, .cons ⟨rfl, rfl, ru2⟩ h1, ?_, by rw [List.length_cons, List.length_cons, h3], fun j T' p hT' hp' => ?_⟩
        · rw [h2, List.map_cons]
          congr 1
        · cases j with
          | zero =>
            simp only [List.getElem?_cons_zero, Option.some.injEq] at hT' hp'
            subst hT' hp'
            exact .inl it
          | succ j => exact h4 j T' p (by simpa using hT') (by simpa using hp')
  obtain ⟨ps, Ts, rel, ei, el, hat⟩ := got hp rv
  have klen : ks.length = ps.length := Paired.length rel
  have keys : ∀ x ∈ ps, (nestedKind X.prog X.w).is s.heap x.1 x.2.1 := by
    have all : ∀ {l : Ents} {m : List (NK × Addr × Value)}, Paired EntR l m → (∀ p ∈ l, KeyN X.K H p.1 p.2.1) → ∀ y ∈ m, (nestedKind X.prog X.w).is s.heap y.1 y.2.1 := by
      intro l m q
      induction q with
      | nil => intro _ y hy; exact nomatch hy
      | @cons p q ps qs hq t ih =>
        intro hl y hy
        rcases List.mem_cons.mp hy with e | hy
        · subst e
          obtain ⟨e1, e2, _⟩ := hq
          rw [← e1, ← e2]
          exact (hl p List.mem_cons_self).is I
        · exact ih (fun p hp => hl p (List.mem_cons_of_mem _ hp)) y hy
    exact all rel hk
  have P := PairArg.list (prog := X.prog) (w := X.w) l its.toArray (fun j => Ts.getD j 0) (ps.map fun p => ((Value.ref p.2.1, p.2.2) : Value × Value))
  have hm : (s.heap.objs.size == sysModules) = false := beq_eq_false_iff_ne.mpr (Nat.ne_of_gt I.big)
  refine call_dict_pairsH (knd := nestedKind X.prog X.w) (ps := ps) P hh (show X.A.in1.in1.units + 8 < cLine by have : X.A.in1.in1.units = X.A.units + 2 := rfl; omega) ⟨⟨o, n, ho, hc, hd, hdat⟩, ?_, fun j k v e => ?_⟩ ⟨by rw [List.length_map], fun i key v e => ?_⟩ (fun h' hs x hx => ?_) (by rw [List.length_map]; omega) fun h' tk dd hs => ?_
  · rw [List.size_toArray, ei, List.length_map, List.length_map, el]
  · rw [List.getElem?_map] at e
    obtain ⟨p, hp', e⟩ := Option.map_eq_some_iff.mp e
    cases e
    have hj : j < Ts.length := by rw [el]; exact (List.getElem?_eq_some_iff.mp hp').1
    have eT : Ts[j]? = some (Ts.getD j 0) := by rw [List.getD, List.getElem?_eq_getElem hj]; rfl
    refine ⟨?_, hat j _ p eT hp'⟩
    rw [List.getElem?_toArray, ei, List.getElem?_map, eT]
    rfl
  · have e : (ps.map fun p => ((Value.ref p.2.1, p.2.2) : Value × Value))[i]? = some (key, v) := e
    rw [List.getElem?_map] at e
    obtain ⟨p, hp', e⟩ := Option.map_eq_some_iff.mp e
    cases e
    exact ⟨p.1, p.2.1, hp', rfl⟩
  · exact nestedKind_stays.stays (fun b o vs n e _ => hs b o (Nat.ne_of_lt (Heap.lt_size e)) (fun q => nomatch q) e) (keys x hx)
  · obtain ⟨o2, es, ep, h1, h2, h3, h4, _, h5⟩ := dd
    have fl := foldN_len ks
    exact ⟨.ref s.heap.objs.size, _, I.laid (t' := tk) (fun b ob e => hs b ob (fun q => nomatch q) e) (Nat.le_refl _) (dicN_ok ⟨Nat.le_trans fl hz, hm, _, entR_fold rel .nil, o2, es, ep, h1, h2, h3, h4, h5⟩), rfl, q _ (I.hok.fresh (Nat.le_refl _))⟩
end
section
variable {X : Cx} {a e : Expr} {es : List Expr} {pos : Pos} {p : WE} {pa : WA} {K : PySem.W.Frag} {w : World} {x : Str} {xp : Pos}
abbrev wLenD (i : Nat) : WE := fun Γ Q => slotD Γ i fun es => Q (.int (es.length : Int))
theorem q_lenD (i : Nat) {p1 : Pos} (hm : X.mg "len" = none) (hN : X.N[i]? = some x := by rfl) (hg : Gl X "len" := by rfl) (hv : Vis X.env.scope x := by first | exact Or.inl rfl | exact Or.inr (Or.inl rfl) | exact Or.inr (Or.inr rfl)) (hd : (x == ("__debug__" : Str)) = false := by decide) (hcd : (x == ("__classdict__" : Str)) = false := by decide)
    (hb : bootBuiltins "len" = some (.builtin "len") := by decide +kernel)
    (he : starEach [.Name x xp] X.env = (false, eval (.Name x xp) X.env) :: starEach [] X.env := by rfl) (hpl : (backTo pos (starEach [] X.env)).any (·.1) = false := by rfl) : QE X (.Call (.Name "len" p1) [.Name x xp] [] pos) (wLenD i) :=
  ⟨_, pe_callB (call_lenN rfl) hg hm hb (pa_cons (pe_var hN hv hd hcd) pa_nil he) (by decide) (by decide) he hpl, fun C σ H ex Γ e1 e2 R Q' hp Q k => by
  obtain ⟨x0, es, g, hx0, hp⟩ := slotD_of hp
  obtain ⟨a, ks, sv, h2, h3, h4, h5⟩ := R.dict g hx0
  refine ⟨_, sv, a, ks, rfl, e2 ▸ h4, ?_⟩
  rw [ent_len h5]
  exact k _ _ _ R (.refl H) (.int _) hp⟩
def foldE (es : List (NK × PyData)) : List (NK × PyData) := es.foldl (fun acc p => putE acc p.1 p.2) []
theorem ent_fold {K : PySem.W.Frag} {B : Hp} {ks : Ents} {es : List (NK × PyData)} (h : Paired (EntAt K B) ks es) : Paired (EntAt K B) (foldN ks) (foldE es) := by
  have go : ∀ {ks : Ents} {es : List (NK × PyData)}, Paired (EntAt K B) ks es → ∀ {acc : Ents} {acc' : List (NK × PyData)}, Paired (EntAt K B) acc acc' → Paired (EntAt K B) (ks.foldl (fun acc p => putN acc p.1 p.2.1 p.2.2) acc) (es.foldl (fun acc p => putE acc p.1 p.2) acc') := by
    intro ks es h
    induction h with
    | nil => exact fun h => h
    | @cons p q ps qs r t ih =>
      intro acc acc' ha
      refine ih (?_ : Paired (EntAt K B) (putN acc p.1 p.2.1 p.2.2) (putE acc' q.1 q.2))
      rw [← r.1]
      exact ent_put ha r.2.1 r.2.2
  exact go h .nil
theorem pairs_split {K : PySem.W.Frag} {B : Hp} : ∀ {es : List (NK × PyData)} {xs : List V}, (∀ e ∈ es, e.1.depth ≤ 8 ∧ isT e.1.data = true) → DdAll K B xs (es.map fun e => pairD e.1.data e.2) → ∃ ks : Ents, Paired (EntAt K B) ks es ∧ Paired (PairOf K B) xs ks
  | [], _, _, .nil => ⟨[], .nil, .nil⟩
  | e :: es, _, h, .cons d1 d2 => by
    obtain ⟨ks, h1, h2⟩ := pairs_split (fun y hy => h y (List.mem_cons_of_mem _ hy)) d2
    obtain ⟨hk, ht⟩ := h e List.mem_cons_self
    have d1 : Dd K B _ (.tuple [e.1.data, e.2]) := d1
    cases d1 with
    | tup hs ha =>
      cases ha with
      | cons hk1 hr =>
        cases hr with
        | cons hv hn =>
          cases hn
          obtain ⟨b, rfl, kb, _⟩ := key_at (Same.refl B) hk1 ht hk
          exact ⟨(e.1, b, _) :: ks, .cons ⟨rfl, kb, hv⟩ h1, .cons ⟨_, rfl, hs⟩ h2⟩
theorem Rel.newDK {C : Ctx} {σ : L2.St} {H : Hp} {ex : List Addr} {Γ : VEnv} (R : Rel C σ H ex Γ) {i : Nat} {p : Addr} {ks : Ents} {es : List (NK × PyData)} (np : H p = none) (h : Paired (EntAt C.K (Mask H ex)) ks es) : Rel C (σ.set i (some (.ref p))) (upd H p (DicN C.w p ks)) (p :: ex) (Γ.set i (some (.dct false es))) :=
  R.setNewG (R.new np _) (.of (same_new np _)) np ⟨_, upd_same, nt_dic _ _ _⟩ ⟨p, ks, rfl, List.mem_cons_self, fun z => R.fresh np (R.exs p (C.dkE p z)), by rw [if_neg Bool.false_ne_true]; exact ⟨upd_same, .inl (R.mine np)⟩, paired_mono (fun _ _ => ent_mono (mask_own R np _)) h⟩
/-- x = dict(a list of pairs) -/
def wPairs (ds : List PyData) (Q : List (NK × PyData) → Prop) : Prop := ∃ es : List (NK × PyData), ds = es.map (fun e => pairD e.1.data e.2) ∧ (∀ e ∈ es, e.1.depth ≤ 8 ∧ isT e.1.data = true) ∧ es.length ≤ sizeLine ∧ Q (foldE es)
abbrev wSetDP (i : Nat) (p : WA) : WS := fun E Γ => p Γ fun ds => wPairs ds fun es => E.nx (Γ.set i (some (.dct false es)))
theorem qs_setDP (i : Nat) {p1 cpos : Pos} (hh : X.A.handled = none) (hu : X.A.units + 64 < cLine) (hm : X.mg "dict" = none) (hN : X.N.Nodup) (hi : X.N[i]? = some x) (hx : Loc X.env.scope x) (h : QN X e pa) (hg : Gl X "dict" := by rfl)
    (hb : bootBuiltins "dict" = some (.type "dict") := by decide +kernel)
    (he : starEach [e] X.env = (false, eval e X.env) :: starEach [] X.env := by rfl) (hpl : (backTo cpos (starEach [] X.env)).any (·.1) = false := by rfl)
    (hs : swapsWith (.Call (.Name "dict" p1) [e] [] cpos) (some (.Name x xp)) pos.line X.env = pure false := by rfl) (hf : X.fn x = true ∨ X.env.scope.names.lookup x = some .local := by first | exact .inl rfl | exact .inr rfl | assumption) :
    QS X (.Assign [.Name x xp] (.Call (.Name "dict" p1) [e] [] cpos) pos) (wSetDP i pa) := let ⟨_, a1, a2⟩ := h.ex;
  ⟨_, ps_set hN hi hx (pe_callTy (call_dictN hh hu rfl rfl) hg hm hb (pa_cons a1 pa_nil he) (by decide) (by decide) he hpl) hs hf, fun C σ H ex Γ e1 e2 R E' hp E s => by
  refine a2 C σ H ex Γ e1 e2 R _ hp _ fun l xs ds H1 R1 g1 nl hl hd q => ?_
  obtain ⟨es, rfl, hk, hz, q⟩ := q
  have hd := dpa_mono (mask_unown l R nl) hd
  obtain ⟨ks, h1, h2⟩ := pairs_split hk hd
  have lk := ent_len h1
  refine ⟨l, xs, ks, rfl, .of hl, ?_, e1 ▸ ent_keys (mask_le H1 ex) h1, by rw [lk]; exact hz, fun b nb => ?_⟩
  · rw [← e1]
    exact paired_mono (fun t p ⟨T, h3, h4⟩ => ⟨T, h3, (mask_le H1 ex).sqt h4⟩) h2
  · rw [← e2]
    exact s.nx _ _ _ _ (R1.newDK nb (ent_fold h1)) ((g1.mask R).trans (mask_ext R1 (.of (same_new nb _)) nb)) q⟩
end
end PV
/-! what repr shows tells what it is: ints, bools, tuples of such -/
namespace KL
open PySem PySem.Spec PyProof.Rows L2 RZ StX SrtO Kw KM PV
open TL
theorem tl_int (i : Int) : tl (PyData.int i).shown = if i < 0 then 45 :: numL i.natAbs else numL i.natAbs := by
  rw [PyData.shown_int]
  cases i with
  | ofNat n =>
    rw [if_neg (by show ¬ ((n : Nat) : Int) < 0; omega)]
    exact tl_num n
  | negSucc n =>
    rw [if_pos (Int.negSucc_lt_zero n)]
    have e : (toString (Int.negSucc n) : String) = "-" ++ toString (((n + 1 : Nat)) : Int) := rfl
    rw [e]
    have h := tl_num (n + 1)
    rw [show tl (Str.ofString (toString (((n + 1 : Nat)) : Int))) = _ from signs_ofString _] at h
    show (Str.ofString ("-" ++ toString (((n + 1 : Nat)) : Int))).cps.toList = _
    rw [signs_ofString, String.toList_append, List.map_append, h]
    rfl
/-! ints, bools, tuples of such -/
mutual
def shw : PyData → Bool
  | .int _ => true
  | .bool _ => true
  | .tuple ds => shws ds
  | _ => false
def shws : List PyData → Bool
  | [] => true
  | d :: r => shw d && shws r
end
def tailC (ds : List PyData) : List Nat := ds.flatMap fun d => 44 :: 32 :: tl d.shown
theorem join_tail (d : PyData) : ∀ r : List PyData, tl (Str.join ", " (PyData.shownAll (d :: r))) = tl d.shown ++ tailC r
  | [] => by
    show tl d.shown = tl d.shown ++ []
    rw [List.append_nil]
  | e :: r => by
    show tl (Str.join ", " (d.shown :: e.shown :: PyData.shownAll r)) = _
    rw [join_cons_cons]
    show tl (_ ++ _ ++ _) = _
    unfold tl
    rw [cps_toList_append, cps_toList_append]
    have ih := join_tail e r
    unfold tl at ih
    rw [show (Str.join ", " (e.shown :: PyData.shownAll r)).cps.toList = _ from ih]
    have s : (Str.ofString ", ").cps.toList = [44, 32] := by decide
    rw [show ((", " : String) : Str).cps.toList = [44, 32] from s]
    simp [tailC, tl]
def bodyC : List PyData → List Nat
  | [] => [41]
  | [d] => tl d.shown ++ [44, 41]
  | d :: e :: r => tl d.shown ++ (tailC (e :: r) ++ [41])
theorem tl_tuple : ∀ ds : List PyData, tl (PyData.tuple ds).shown = 40 :: bodyC ds
  | [] => by decide
  | [d] => by
    show tl (tupleText [d.shown]) = _
    rw [tupleText_one]
    unfold tl
    rw [cps_toList_append, cps_toList_append]
    have s : (Str.ofString "(").cps.toList = [40] := by decide
    have s' : (Str.ofString ",)").cps.toList = [44, 41] := by decide
    rw [s, s']
    rfl
  | d :: e :: r => by
    show tl (tupleText (PyData.shownAll (d :: e :: r))) = _
    unfold tupleText
    have h := join_tail d (e :: r)
    have c : ((PyData.shownAll (d :: e :: r)).length == 1) = false := rfl
    rw [c]
    unfold tl at h ⊢
    rw [cps_toList_append, cps_toList_append, h]
    have s : (Str.ofString "(").cps.toList = [40] := by decide
    have s' : (Str.ofString ")").cps.toList = [41] := by decide
    show (Str.ofString "(").cps.toList ++ _ ++ (Str.ofString ")").cps.toList = _
    rw [s, s']
    simp [bodyC]
/-- what may stand behind a value -/
def sepR (r : List Nat) : Prop := ∀ c s, r = c :: s → c = 44 ∨ c = 41
theorem sepR_nil : sepR [] := fun _ _ h => nomatch h
theorem digits_pre : ∀ {a b r s : List Nat}, (∀ x ∈ a, 48 ≤ x ∧ x ≤ 57) → (∀ x ∈ b, 48 ≤ x ∧ x ≤ 57) → sepR r → sepR s → a ++ r = b ++ s → a = b ∧ r = s
  | [], [], _, _, _, _, _, _, e => ⟨rfl, e⟩
  | [], y :: b, r, s, _, hb, hr, _, e => by
    have h := hb y List.mem_cons_self
    rcases hr y _ e with z | z <;> omega
  | x :: a, [], r, s, ha, _, _, hs, e => by
    have h := ha x List.mem_cons_self
    rcases hs x _ e.symm with z | z <;> omega
  | x :: a, y :: b, r, s, ha, hb, hr, hs, e => by
    obtain ⟨h1, h2⟩ := List.cons.inj e
    obtain ⟨h3, h4⟩ := digits_pre (fun z hz => ha z (List.mem_cons_of_mem _ hz)) (fun z hz => hb z (List.mem_cons_of_mem _ hz)) hr hs h2
    exact ⟨by rw [h1, h3], h4⟩
theorem num_dig (n : Nat) : ∀ x ∈ numL n, 48 ≤ x ∧ x ≤ 57 := fun x hx => numL_digits n x hx
theorem num_cons (n : Nat) : ∃ c r, numL n = c :: r ∧ 48 ≤ c ∧ c ≤ 57 := by
  cases e : numL n with
  | nil => exact absurd e (numL_ne n)
  | cons c r => exact ⟨c, r, rfl, num_dig n c (by rw [e]; exact List.mem_cons_self)⟩
/-- the first sign: 0 an int, 1 a bool, 2 a tuple -/
theorem tl_head : ∀ d : PyData, shw d = true → ∃ c r, tl d.shown = c :: r ∧ c ≠ 41 ∧ ((∃ i, d = .int i ∧ 45 ≤ c ∧ c ≤ 57) ∨ (∃ b, d = .bool b ∧ 58 ≤ c) ∨ ∃ ds, d = .tuple ds ∧ c = 40)
  | .int i, _ => by
    rw [tl_int]
    obtain ⟨c, r, e, h⟩ := num_cons i.natAbs
    split
    · exact ⟨_, _, rfl, by decide, .inl ⟨i, rfl, by decide, by decide⟩⟩
    · exact ⟨c, r, e, by omega, .inl ⟨i, rfl, by omega, h.2⟩⟩
  | .bool b, _ => by
    cases b with
    | true => exact ⟨84, _, (by decide : tl (PyData.bool true).shown = 84 :: [114, 117, 101]), by decide, .inr (.inl ⟨_, rfl, by decide⟩)⟩
    | false => exact ⟨70, _, (by decide : tl (PyData.bool false).shown = 70 :: [97, 108, 115, 101]), by decide, .inr (.inl ⟨_, rfl, by decide⟩)⟩
  | .tuple ds, _ => by
    rw [tl_tuple]
    exact ⟨_, _, rfl, by decide, .inr (.inr ⟨_, rfl, rfl⟩)⟩
  | .none, h => by unfold shw at h; cases h
  | .str _, h => by unfold shw at h; cases h
  | .list _, h => by unfold shw at h; cases h
  | .dict _, h => by unfold shw at h; cases h
theorem sep_tail (ds : List PyData) (r : List Nat) : sepR (tailC ds ++ 41 :: r) := fun c s h => by
  cases ds with
  | nil => exact .inr (List.cons.inj h).1.symm
  | cons d l => exact .inl (List.cons.inj h).1.symm
mutual
theorem shw_pre : ∀ (d e : PyData) (r s : List Nat), shw d = true → shw e = true → sepR r → sepR s → tl d.shown ++ r = tl e.shown ++ s → d = e ∧ r = s
  | .int i, e, r, s, hd, he, hr, hs, h => by
    obtain ⟨c, u, hu, _, hc⟩ := tl_head e he
    obtain ⟨c', u', hu', _, hc'⟩ := tl_head (.int i) rfl
    have ec : c' = c := by rw [hu, hu'] at h; exact (List.cons.inj h).1
    rcases hc' with ⟨i', e1, h1, h2⟩ | ⟨b, e1, _⟩ | ⟨ds, e1, _⟩
    · rcases hc with ⟨j, rfl, h3, h4⟩ | ⟨b, rfl, h3⟩ | ⟨ds, rfl, h3⟩
      · rw [tl_int, tl_int] at h
        obtain ⟨a1, b1, k1, k2, k3⟩ := num_cons i.natAbs
        obtain ⟨a2, b2, k4, k5, k6⟩ := num_cons j.natAbs
        by_cases n1 : i < 0
        · by_cases n2 : j < 0
          · rw [if_pos n1, if_pos n2] at h
            obtain ⟨g1, g2⟩ := digits_pre (num_dig _) (num_dig _) hr hs (List.cons.inj h).2
            have := numL_inj g1
            exact ⟨congrArg PyData.int (by omega), g2⟩
          · rw [if_pos n1, if_neg n2, k4] at h
            have := (List.cons.inj h).1
            omega
        · by_cases n2 : j < 0
          · rw [if_neg n1, if_pos n2, k1] at h
            have := (List.cons.inj h).1
            omega
          · rw [if_neg n1, if_neg n2] at h
            obtain ⟨g1, g2⟩ := digits_pre (num_dig _) (num_dig _) hr hs h
            have := numL_inj g1
            exact ⟨congrArg PyData.int (by omega), g2⟩
      · omega
      · omega
    · cases e1
    · cases e1
  | .bool b, e, r, s, hd, he, hr, hs, h => by
    obtain ⟨c, u, hu, _, hc⟩ := tl_head e he
    have t : tl (PyData.bool true).shown = [84, 114, 117, 101] := by decide
    have f : tl (PyData.bool false).shown = [70, 97, 108, 115, 101] := by decide
    have c58 : 58 ≤ c := by
      cases b
      · rw [f, hu] at h; have := (List.cons.inj h).1; omega
      · rw [t, hu] at h; have := (List.cons.inj h).1; omega
    rcases hc with ⟨j, rfl, h3, h4⟩ | ⟨b', rfl, h3⟩ | ⟨ds, rfl, h3⟩
    · omega
    · cases b <;> cases b'
      · exact ⟨rfl, List.append_cancel_left h⟩
      · rw [t, f] at h; have := (List.cons.inj h).1; omega
      · rw [t, f] at h; have := (List.cons.inj h).1; omega
      · exact ⟨rfl, List.append_cancel_left h⟩
    · omega
  | .tuple ds, e, r, s, hd, he, hr, hs, h => by
    obtain ⟨c, u, hu, _, hc⟩ := tl_head e he
    have h40 : c = 40 := by
      obtain ⟨c', u', hu', _, hc'⟩ := tl_head (.tuple ds) hd
      rw [hu, hu'] at h
      have := (List.cons.inj h).1
      rcases hc' with ⟨_, e1, _⟩ | ⟨_, e1, _⟩ | ⟨_, _, e1⟩
      · cases e1
      · cases e1
      · omega
    rcases hc with ⟨j, rfl, h3, h4⟩ | ⟨b', rfl, h3⟩ | ⟨es, rfl, h3⟩
    · have hj := tl_int j
      rw [hu] at hj
      obtain ⟨a1, b1, k1, k2, k3⟩ := num_cons j.natAbs
      omega
    · omega
    · have hd' : shws ds = true := by unfold shw at hd; exact hd
      have he' : shws es = true := by unfold shw at he; exact he
      rw [tl_tuple, tl_tuple] at h
      have h : bodyC ds ++ r = bodyC es ++ s := (List.cons.inj h).2
      have all1 : ∀ {d : PyData} {l : List PyData}, shws (d :: l) = true → shw d = true ∧ shws l = true := fun z => by
        unfold shws at z
        exact Bool.and_eq_true_iff.mp z
      have c1 : ∀ t : List Nat, sepR (44 :: t) := fun t c s z => .inl (List.cons.inj z).1.symm
      match ds, es, hd', he', h with
      | [], [], _, _, h => exact ⟨rfl, List.append_cancel_left h⟩
      | [], b :: l, _, hb, h =>
        obtain ⟨c, u, hu, n, _⟩ := tl_head b (all1 hb).1
        have : ∃ t, bodyC (b :: l) = tl b.shown ++ t := by cases l <;> exact ⟨_, rfl⟩
        obtain ⟨t, ht⟩ := this
        rw [ht, hu] at h
        exact absurd (List.cons.inj h).1.symm n
      | a :: l, [], ha, _, h =>
        obtain ⟨c, u, hu, n, _⟩ := tl_head a (all1 ha).1
        have : ∃ t, bodyC (a :: l) = tl a.shown ++ t := by cases l <;> exact ⟨_, rfl⟩
        obtain ⟨t, ht⟩ := this
        rw [ht, hu] at h
        exact absurd (List.cons.inj h).1 n
      | [a], [b], ha, hb, h =>
        have h : tl a.shown ++ [44, 41] ++ r = tl b.shown ++ [44, 41] ++ s := h
        rw [List.append_assoc, List.append_assoc] at h
        obtain ⟨g1, g2⟩ := shw_pre a b _ _ (all1 ha).1 (all1 hb).1 (c1 _) (c1 _) h
        exact ⟨by rw [g1], (List.cons.inj (List.cons.inj g2).2).2⟩
      | [a], b :: b2 :: r2, ha, hb, h =>
        have h : tl a.shown ++ [44, 41] ++ r = tl b.shown ++ (tailC (b2 :: r2) ++ [41]) ++ s := h
        rw [List.append_assoc, List.append_assoc, List.append_assoc] at h
        obtain ⟨g1, g2⟩ := shw_pre a b _ _ (all1 ha).1 (all1 hb).1 (c1 _) (sep_tail _ _) h
        have g3 := (List.cons.inj g2).2
        have : (41 : Nat) = 32 := (List.cons.inj g3).1
        omega
      | a :: a2 :: r1, [b], ha, hb, h =>
        have h : tl a.shown ++ (tailC (a2 :: r1) ++ [41]) ++ r = tl b.shown ++ [44, 41] ++ s := h
        rw [List.append_assoc, List.append_assoc, List.append_assoc] at h
        obtain ⟨g1, g2⟩ := shw_pre a b _ _ (all1 ha).1 (all1 hb).1 (sep_tail _ _) (c1 _) h
        have g3 := (List.cons.inj g2).2
        have : (32 : Nat) = 41 := (List.cons.inj g3).1
        omega
      | a :: a2 :: r1, b :: b2 :: r2, ha, hb, h =>
        have h : tl a.shown ++ (tailC (a2 :: r1) ++ [41]) ++ r = tl b.shown ++ (tailC (b2 :: r2) ++ [41]) ++ s := h
        rw [List.append_assoc, List.append_assoc, List.append_assoc, List.append_assoc] at h
        obtain ⟨g1, g2⟩ := shw_pre a b _ _ (all1 ha).1 (all1 hb).1 (sep_tail _ _) (sep_tail _ _) h
        obtain ⟨g3, g4⟩ := shw_tail (a2 :: r1) (b2 :: r2) r s (all1 ha).2 (all1 hb).2 g2
        exact ⟨by rw [g1, g3], g4⟩
  | .none, _, _, _, h, _, _, _, _ => by unfold shw at h; cases h
  | .str _, _, _, _, h, _, _, _, _ => by unfold shw at h; cases h
  | .list _, _, _, _, h, _, _, _, _ => by unfold shw at h; cases h
  | .dict _, _, _, _, h, _, _, _, _ => by unfold shw at h; cases h
theorem shw_tail : ∀ (ds es : List PyData) (r s : List Nat), shws ds = true → shws es = true → tailC ds ++ 41 :: r = tailC es ++ 41 :: s → ds = es ∧ r = s
  | [], [], r, s, _, _, h => ⟨rfl, (List.cons.inj h).2⟩
  | [], e :: l, r, s, _, _, h => by
    have : (41 : Nat) = 44 := (List.cons.inj h).1
    omega
  | d :: k, [], r, s, _, _, h => by
    have : (44 : Nat) = 41 := (List.cons.inj h).1
    omega
  | d :: k, e :: l, r, s, hd, he, h => by
    have hd' : shw d = true ∧ shws k = true := by unfold shws at hd; exact Bool.and_eq_true_iff.mp hd
    have he' : shw e = true ∧ shws l = true := by unfold shws at he; exact Bool.and_eq_true_iff.mp he
    have h : tl d.shown ++ (tailC k ++ 41 :: r) = tl e.shown ++ (tailC l ++ 41 :: s) := by
      have h1 := (List.cons.inj (List.cons.inj h).2).2
      have e1 : ∀ (x : PyData) (l : List PyData) (t : List Nat), tl x.shown ++ (tailC l ++ t) = (tl x.shown ++ tailC l) ++ t := fun x l t => (List.append_assoc _ _ _).symm
      rw [e1, e1]
      exact h1
    obtain ⟨g1, g2⟩ := shw_pre d e _ _ hd'.1 he'.1 (sep_tail _ _) (sep_tail _ _) h
    obtain ⟨g3, g4⟩ := shw_tail k l r s hd'.2 he'.2 g2
    exact ⟨by rw [g1, g3], g4⟩
end
theorem shown_inj {d e : PyData} (hd : shw d = true) (he : shw e = true) (h : d.shown = e.shown) : d = e :=
  (shw_pre d e [] [] hd he sepR_nil sepR_nil (by rw [h])).1
end KL
/-! how long the text of a heap is -/
namespace KL
open PySem PySem.Spec PyProof.Rows L2 RZ StX SrtO Kw KM PV
open TL
theorem Rp.intk {i : Int} {k : Nat} (k0 : 0 < k) (k1 : k ≤ 570) (h : i.natAbs < 10 ^ k) : Rp (k + 1) 0 (.int i) := by
  have e : 10 ^ k ≤ 10 ^ 570 := Nat.pow_le_pow_right (by decide) k1
  have e2 : 10 ^ 570 < 2 ^ 1900 := by decide +kernel
  have r := Rp.int (i := i) (by omega)
  refine ⟨r.sh, r.nd, r.dp, ?_, r.cl⟩
  rw [len_tl, tl_int]
  have l := numL_len k0 h
  split
  · rw [List.length_cons]; omega
  · omega
theorem Rp.two {n1 n2 k : Nat} {a b : PyData} (ha : Rp n1 k a) (hb : Rp n2 k b) : Rp (n1 + n2 + 7) (k + 1) (.tuple [a, b]) := by
  have u := Rp.tup (n := n1 + n2) (k := k) (m := 3 + 2 * (n1 + n2 + 2)) (ds := [a, b]) (fun d hd => by
    simp only [List.mem_cons, List.not_mem_nil, or_false] at hd
    rcases hd with rfl | rfl
    · exact ha.mono (by omega) (Nat.le_refl _)
    · exact hb.mono (by omega) (Nat.le_refl _)) (by show 3 + 2 * _ ≤ _; omega)
  refine ⟨u.sh, u.nd, u.dp, ?_, u.cl⟩
  simp only [PyData.shown, PyData.shownAll]
  refine Nat.le_trans (tuple_len _) ?_
  rw [piled_cons, piled_cons, piled_nil]
  have := ha.ln
  have := hb.ln
  omega
theorem Rp.three {n1 n2 n3 k : Nat} {a b c : PyData} (ha : Rp n1 k a) (hb : Rp n2 k b) (hc : Rp n3 k c) : Rp (n1 + n2 + n3 + 9) (k + 1) (.tuple [a, b, c]) := by
  have u := Rp.tup (n := n1 + n2 + n3) (k := k) (m := 3 + 3 * (n1 + n2 + n3 + 2)) (ds := [a, b, c]) (fun d hd => by
    simp only [List.mem_cons, List.not_mem_nil, or_false] at hd
    rcases hd with rfl | rfl | rfl
    · exact ha.mono (by omega) (Nat.le_refl _)
    · exact hb.mono (by omega) (Nat.le_refl _)
    · exact hc.mono (by omega) (Nat.le_refl _)) (by show 3 + 3 * _ ≤ _; omega)
  refine ⟨u.sh, u.nd, u.dp, ?_, u.cl⟩
  simp only [PyData.shown, PyData.shownAll]
  refine Nat.le_trans (tuple_len _) ?_
  rw [piled_cons, piled_cons, piled_cons, piled_nil]
  have := ha.ln
  have := hb.ln
  have := hc.ln
  omega
/-- numbers of k figures -/
structure NumK (k : Nat) (s : Sr) : Prop where
  m : s.m < 10 ^ k
  c : ∀ c ∈ s.c, c.natAbs < 10 ^ k
  r : s.r.natAbs < 10 ^ k
  l : s.c.length ≤ 3
theorem rp_sr {k : Nat} (k0 : 0 < k) (k1 : k ≤ 570) {s : Sr} (h : NumK k s) : Rp (5 * k + 23) 2 s.D := by
  have a : Rp (k + 1) 0 (.int (s.m : Int)) := Rp.intk k0 k1 (by rw [Int.natAbs_natCast]; exact h.m)
  have b : Rp (3 * k + 12) 1 (.tuple (s.c.map PyData.int)) := Rp.tup (n := k + 1) (k := 0) (fun d hd => by
    obtain ⟨c, hc, rfl⟩ := List.mem_map.mp hd
    exact Rp.intk k0 k1 (h.c c hc)) (by
    rw [List.length_map]
    have := Nat.mul_le_mul_right (k + 1 + 2) h.l
    omega)
  have c : Rp (k + 1) 0 (.int s.r) := Rp.intk k0 k1 h.r
  exact (Rp.three (a.mono (Nat.le_refl _) (Nat.zero_le 1)) b (c.mono (Nat.le_refl _) (Nat.zero_le 1))).mono (by omega) (by omega)
theorem rp_prD {k j : Nat} (k0 : 0 < k) (k1 : k ≤ 570) (j0 : 0 < j) (j1 : j ≤ 570) {x : Sr × Int} (h : NumK k x.1) (ht : x.2.natAbs < 10 ^ j) : Rp (5 * k + j + 31) 3 (prD x) :=
  (Rp.two (rp_sr k0 k1 h) ((Rp.intk j0 j1 ht).mono (Nat.le_refl _) (Nat.zero_le 2))).mono (by omega) (by omega)
theorem rp_hs {k j n : Nat} (k0 : 0 < k) (k1 : k ≤ 570) (j0 : 0 < j) (j1 : j ≤ 570) {hs : Hs} (h : ∀ x ∈ hs, NumK k x.1 ∧ x.2.natAbs < 10 ^ j) (hl : hs.length ≤ n) : Rp (3 + n * (5 * k + j + 33)) 4 (hsD hs) := by
  refine Rp.tup (n := 5 * k + j + 31) (k := 3) (fun d hd => ?_) ?_
  · obtain ⟨x, hx, rfl⟩ := List.mem_map.mp hd
    exact rp_prD k0 k1 j0 j1 (h x hx).1 (h x hx).2
  · rw [List.length_map]
    exact Nat.add_le_add_left (Nat.mul_le_mul_right (5 * k + j + 33) hl) 3
theorem shws_ints : ∀ cs : List Int, shws (cs.map PyData.int) = true
  | [] => by unfold shws; rfl
  | c :: r => by
    show shws (PyData.int c :: r.map PyData.int) = true
    unfold shws
    rw [shws_ints r]
    unfold shw
    rfl
theorem shw_sr (s : Sr) : shw s.D = true := by
  simp [Sr.D, strD, shw, shws, shws_ints]
theorem shw_hs : ∀ hs : Hs, shw (hsD hs) = true := by
  have go : ∀ hs : Hs, shws (hs.map prD) = true := by
    intro hs
    induction hs with
    | nil => unfold shws; rfl
    | cons x r ih =>
      rw [List.map_cons]
      unfold shws
      rw [ih]
      have := shw_sr x.1
      simp [prD, shw, shws, this]
  intro hs
  unfold hsD shw
  exact go hs
theorem prD_inj {x y : Sr × Int} (h : prD x = prD y) : x = y := by
  unfold prD at h
  injection h with h
  injection h with h1 h2
  injection h2 with h2 _
  injection h2 with h2
  exact Prod.ext (Sr.D_inj.mp h1) h2
theorem hsD_inj {a b : Hs} (h : hsD a = hsD b) : a = b := by
  unfold hsD at h
  injection h with h
  exact List.map_inj_right (fun _ _ e => prD_inj e) |>.mp h
theorem hs_shown {a b : Hs} : (hsD a).shown = (hsD b).shown ↔ a = b :=
  ⟨fun h => hsD_inj (shown_inj (shw_hs a) (shw_hs b) h), fun h => by rw [h]⟩
end KL
/-! heaps gathered; how many plain parts; tints added up: mathematics -/
namespace KL
open PySem PySem.Spec PyProof.Rows L2 RZ StX SrtO Kw KM PV
/-- the table of a list of pairs -/
def gatT (t : Hs) : List (Sr × Int) → Hs
  | [] => t
  | x :: r => gatT (putH t x.1 ((getH t x.1).getD 0 + x.2)) r
def nzH (t : Hs) : Hs := t.filter fun x => decide (x.2 ≠ 0)
def gatS (l : List (Sr × Int)) : Hs := sortHs (nzH (gatT [] l))
theorem putH_len (t : Hs) (s : Sr) (u : Int) : (putH t s u).length ≤ t.length + 1 := by
  unfold putH
  split
  · rw [List.length_map]; omega
  · rw [List.length_append]; exact Nat.le_refl _
theorem gatT_snoc : ∀ (l : List (Sr × Int)) (t : Hs) (x : Sr × Int), gatT t (l ++ [x]) = putH (gatT t l) x.1 ((getH (gatT t l) x.1).getD 0 + x.2)
  | [], t, x => rfl
  | y :: r, t, x => gatT_snoc r _ x
theorem gatT_len : ∀ (l : List (Sr × Int)) (t : Hs), (gatT t l).length ≤ t.length + l.length
  | [], t => Nat.le_refl _
  | x :: r, t => by
    have h1 := gatT_len r (putH t x.1 ((getH t x.1).getD 0 + x.2))
    have h2 := putH_len t x.1 ((getH t x.1).getD 0 + x.2)
    show (gatT (putH t x.1 _) r).length ≤ _
    rw [List.length_cons]
    omega
/-! ### how many plain parts -/
theorem apt_len2 {p : Nat} (hp : 2 ≤ p) : ∀ (j k : Nat) (s : Sr), j ≤ k → p ^ k ∣ s.m → lowX (p, k - j) s.r = true → (apt p k s).length ≤ 1 + j * (p - 1)
  | 0, k, s, _, _, h => by
    rw [apt_low hp (k := k) h]
    show 1 ≤ _
    omega
  | j + 1, 0, _, h, _, _ => absurd h (Nat.not_succ_le_zero _)
  | j + 1, k + 1, s, hj, hd, h => by
    unfold apt
    split
    · show 1 ≤ _
      omega
    · have dk : p ^ k ∣ s.m / p := by
        obtain ⟨z, hz⟩ := hd
        refine ⟨z, ?_⟩
        rw [hz, Nat.pow_succ, Nat.mul_comm (p ^ k) p, Nat.mul_assoc]
        exact Nat.mul_div_cancel_left _ (by omega)
      have e : k + 1 - (j + 1) = k - j := Nat.add_sub_add_right k 1 j
      rw [e] at h
      have ih := apt_len2 hp j k (divS p s) (by omega) dk (by
        rw [lowX_same (s := s.r)]
        · exact h
        · exact emod_of_dvd _ (Nat.dvd_trans (Nat.pow_dvd_pow p (Nat.sub_le k j)) dk))
      rw [List.length_append, List.length_map, show (sis p s).length = p - 1 by unfold sis; rw [List.length_map, List.length_range], Nat.succ_mul]
      omega
theorem plS_lows : ∀ (pw : List (Nat × Nat)) (L : List (Sr × Int)), (∀ y ∈ L, ∀ x ∈ pw, 2 ≤ x.1 ∧ lowX x y.1.r = true) → plS pw L = L
  | [], _, _ => rfl
  | x :: r, L, h => by
    have one : ∀ (M : List (Sr × Int)), (∀ y ∈ M, ∀ w ∈ x :: r, 2 ≤ w.1 ∧ lowX w y.1.r = true) → (M.flatMap fun y => (apt x.1 x.2 y.1).map fun z => (z.1, y.2 * z.2)) = M := by
      intro M
      induction M with
      | nil => intro _; rfl
      | cons y M ih =>
        intro hM
        have hx := hM y List.mem_cons_self x List.mem_cons_self
        rw [List.flatMap_cons, ih fun z hz => hM z (List.mem_cons_of_mem _ hz), apt_low hx.1 hx.2]
        show [(y.1, y.2 * 1)] ++ M = y :: M
        rw [Int.mul_one]
        rfl
    unfold plS
    rw [one L h]
    exact plS_lows r L fun y hy z hz => h y hy z (List.mem_cons_of_mem _ hz)
theorem plA_len {d : Nat} {s : Sr} {pw : List (Nat × Nat)} (hn : Nf d pw s) {x : Nat × Nat} (hx : x ∈ pw) (others : ∀ y ∈ pw, y.1 ≠ x.1 → lowX y s.r = true) {j : Nat} (hj : j ≤ x.2) (hl : lowX (x.1, x.2 - j) s.r = true) : (plA s).length ≤ 1 + j * (x.1 - 1) := by
  have hw := hn.ok.per.ok
  have e2 : pwS s.m = pw := by rw [← hn.m]; exact pwS_eq hw
  have f : Free pw s.c := fun x hx => hn.ok.free hx
  obtain ⟨a, b⟩ := nf_self hw f hn.ok.c0 hn.u
  have e3 : nfS s = s := by
    unfold nfS
    rw [e2, a, b s.r hn.ok.r0.1 hn.ok.r0.2]
  have p2 := PN_lt _ (hw.mem hx)
  unfold plA
  rw [e2, e3]
  obtain ⟨l1, l2, el⟩ := List.append_of_mem hx
  have nd := hw.nodup
  rw [el, List.map_append, List.map_cons] at nd
  have n1 : ∀ y ∈ l1, y.1 ≠ x.1 := fun y hy z => (List.nodup_append.mp nd).2.2 _ (List.mem_map_of_mem hy) _ List.mem_cons_self z
  have n2 : ∀ y ∈ l2, y.1 ≠ x.1 := fun y hy z => (List.nodup_cons.mp (List.nodup_append.mp nd).2.1).1 (by rw [← z]; exact List.mem_map_of_mem hy)
  have m1 : ∀ y ∈ l1, y ∈ pw := fun y hy => by rw [el]; exact List.mem_append_left _ hy
  have m2 : ∀ y ∈ l2, y ∈ pw := fun y hy => by rw [el]; exact List.mem_append_right _ (List.mem_cons_of_mem _ hy)
  have big : ∀ y ∈ pw, 2 ≤ y.1 := fun y hy => (PN_lt _ (hw.mem hy)).1
  rw [el, plS_append, plS_lows l1 _ (fun y hy z hz => by
    rw [List.mem_singleton.mp hy]
    exact ⟨big z (m1 z hz), others z (m1 z hz) (n1 z hz)⟩)]
  show (plS l2 ([(s, (1 : Int))].flatMap fun y => (apt x.1 x.2 y.1).map fun z => (z.1, y.2 * z.2))).length ≤ _
  rw [List.flatMap_cons, List.flatMap_nil, List.append_nil, plS_lows l2, List.length_map]
  · exact apt_len2 p2.1 j x.2 s hj (by rw [← hn.m]; exact part_dvd_mOf hw hx) hl
  · intro y hy z hz
    obtain ⟨v, hv, rfl⟩ := List.mem_map.mp hy
    refine ⟨big z (m2 z hz), ?_⟩
    obtain ⟨⟨pv, g1, g2, g3, g4⟩, _⟩ := apt_ok (hw.mem hx) (D := fun _ => False) (fun h => h) (E := pw) x.2 pw s hn (exP_mem hw hx) (fun _ _ h => h.elim) (fun _ h _ => h) (fun y hy => ⟨y, hy, rfl⟩) v hv
    obtain ⟨⟨pu, k1, k2, k3, k4⟩, _⟩ := apt_ok (hw.mem hx) (D := fun q => q ≠ x.1) (fun h => h rfl) (E := pw) x.2 pw s hn (exP_mem hw hx) (fun y hy h => others y hy h) (fun _ h _ => h) (fun y hy => ⟨y, hy, rfl⟩) v hv
    have ep : pv = pu := pw_uniq g1.ok.per.ok k1.ok.per.ok (g1.m.trans k1.m.symm)
    have nz := n2 z hz
    exact k2 z (by rw [← ep]; exact g3 z (m2 z hz) fun h => h.elim (fun h => h) nz) (.inl nz)
/-! ### tints added up -/
def sumT (l : List (Sr × Int)) (s : Sr) : Int := ((l.filter fun x => decide (x.1 = s)).map (·.2)).sum
theorem sumT_cons (x : Sr × Int) (l : List (Sr × Int)) (s : Sr) : sumT (x :: l) s = (if x.1 = s then x.2 else 0) + sumT l s := by
  unfold sumT
  rw [List.filter_cons]
  by_cases c : x.1 = s
  · rw [if_pos (decide_eq_true c), if_pos c]; rfl
  · rw [if_neg (by simpa using c), if_neg c, Int.zero_add]
theorem sumT_none {l : List (Sr × Int)} {s : Sr} (h : s ∉ l.map (·.1)) : sumT l s = 0 := by
  induction l with
  | nil => rfl
  | cons x r ih =>
    rw [List.map_cons, List.mem_cons, not_or] at h
    rw [sumT_cons, if_neg (fun z => h.1 z.symm), ih h.2]
    rfl
theorem sumT_append (a b : List (Sr × Int)) (s : Sr) : sumT (a ++ b) s = sumT a s + sumT b s := by
  unfold sumT
  rw [List.filter_append, List.map_append, List.sum_append]
theorem getH_cons (x : Sr × Int) (r : Hs) (s : Sr) : getH (x :: r) s = if x.1 = s then some x.2 else getH r s := by
  unfold getH
  rw [List.find?_cons]
  by_cases c : x.1 = s
  · rw [decide_eq_true c, if_pos c]; rfl
  · rw [decide_eq_false c, if_neg c]
theorem getH_put (t : Hs) (k : Sr) (v : Int) (s : Sr) : getH (putH t k v) s = if k = s then some v else getH t s := by
  cases e : getH t k with
  | none =>
    rw [putH_new e]
    have n := getH_none.mp e
    clear e
    induction t with
    | nil => show getH [(k, v)] s = _; rw [getH_cons]
    | cons x r ih =>
      rw [List.map_cons, List.mem_cons, not_or] at n
      rw [List.cons_append, getH_cons, getH_cons, ih n.2]
      by_cases c : x.1 = s
      · rw [if_pos c, if_pos c, if_neg (fun z => n.1 (by rw [z, c]))]
      · rw [if_neg c, if_neg c]
  | some u =>
    rw [putH_old e]
    have key : ∀ t : Hs, getH (t.map fun x => if x.1 = k then (x.1, v) else x) s = if k = s ∧ s ∈ t.map (·.1) then some v else getH t s := by
      intro t
      induction t with
      | nil => simp [getH]
      | cons x r ih =>
        rw [List.map_cons, getH_cons, getH_cons, ih, List.map_cons]
        by_cases c : x.1 = k
        · rw [if_pos c]
          dsimp only
          by_cases c2 : x.1 = s
          · rw [if_pos c2, if_pos ⟨c.symm.trans c2, by rw [← c2]; exact List.mem_cons_self⟩]
          · rw [if_neg c2, if_neg c2, if_neg (fun z => c2 (c.trans z.1)), if_neg (fun z => c2 (c.trans z.1))]
        · rw [if_neg c]
          by_cases c2 : x.1 = s
          · rw [if_pos c2, if_pos c2, if_neg (fun z => c (c2.trans z.1.symm))]
          · rw [if_neg c2, if_neg c2]
            by_cases c3 : k = s ∧ s ∈ r.map (·.1)
            · rw [if_pos c3, if_pos ⟨c3.1, List.mem_cons_of_mem _ c3.2⟩]
            · rw [if_neg c3, if_neg (fun z => c3 ⟨z.1, (List.mem_cons.mp z.2).resolve_left (fun q => c2 q.symm)⟩)]
    rw [key]
    by_cases c : k = s
    · subst c
      have m : k ∈ t.map (·.1) := Classical.byContradiction fun z => by rw [getH_none.mpr z] at e; cases e
      rw [if_pos ⟨rfl, m⟩, if_pos rfl]
    · rw [if_neg (fun z => c z.1), if_neg c]
theorem gatT_get (s : Sr) : ∀ (l : List (Sr × Int)) (t : Hs), getH (gatT t l) s = if s ∈ l.map (·.1) then some ((getH t s).getD 0 + sumT l s) else getH t s
  | [], t => by simp [gatT]
  | x :: r, t => by
    show getH (gatT (putH t x.1 ((getH t x.1).getD 0 + x.2)) r) s = _
    rw [gatT_get s r, getH_put, sumT_cons, List.map_cons]
    by_cases c : x.1 = s
    · subst c
      rw [if_pos rfl, if_pos rfl]
      have m : x.1 ∈ x.1 :: r.map (·.1) := List.mem_cons_self
      by_cases c2 : x.1 ∈ r.map (·.1)
      · rw [if_pos c2, if_pos m, Option.getD_some, Int.add_assoc]
      · rw [if_neg c2, if_pos m, sumT_none c2, Int.add_zero]
    · rw [if_neg c, if_neg c, Int.zero_add]
      by_cases c2 : s ∈ r.map (·.1)
      · rw [if_pos c2, if_pos (List.mem_cons_of_mem _ c2)]
      · rw [if_neg c2, if_neg (fun z => c2 ((List.mem_cons.mp z).resolve_left fun q => c q.symm))]
theorem gatT_nodup : ∀ (l : List (Sr × Int)) (t : Hs), (t.map (·.1)).Nodup → ((gatT t l).map (·.1)).Nodup
  | [], _, h => h
  | x :: r, t, h => gatT_nodup r _ (putH_nodup h _ _)
theorem getH_mem {t : Hs} (nd : (t.map (·.1)).Nodup) {x : Sr × Int} : x ∈ t ↔ getH t x.1 = some x.2 := by
  refine ⟨getH_at nd, fun h => ?_⟩
  unfold getH at h
  obtain ⟨y, hy, e⟩ := Option.map_eq_some_iff.mp h
  have h1 := List.mem_of_find?_eq_some hy
  have h2 := List.find?_some (p := fun z : Sr × Int => decide (z.1 = x.1)) hy
  have h2 : y.1 = x.1 := of_decide_eq_true h2
  have : y = x := Prod.ext h2 e
  rw [← this]
  exact h1
theorem mem_gatS {l : List (Sr × Int)} {x : Sr × Int} : x ∈ gatS l ↔ x.2 ≠ 0 ∧ sumT l x.1 = x.2 := by
  unfold gatS nzH
  rw [(sortHs_perm _).mem_iff, List.mem_filter, getH_mem (gatT_nodup l [] List.nodup_nil), gatT_get]
  have e0 : (getH [] x.1).getD 0 = 0 := rfl
  rw [e0, Int.zero_add]
  by_cases c : x.1 ∈ l.map (·.1)
  · rw [if_pos c]
    constructor
    · rintro ⟨h1, h2⟩
      exact ⟨of_decide_eq_true h2, Option.some.inj h1⟩
    · rintro ⟨h1, h2⟩
      exact ⟨congrArg some h2, decide_eq_true h1⟩
  · rw [if_neg c, sumT_none c]
    constructor
    · rintro ⟨h1, _⟩
      cases h1
    · rintro ⟨h1, h2⟩
      exact absurd h2.symm h1
theorem gatS_asc (l : List (Sr × Int)) : ((gatS l).map (·.1)).Pairwise fun a b => srLt a b = true :=
  sortHs_asc ((List.filter_sublist.map _).nodup (gatT_nodup l [] List.nodup_nil))
theorem gatS_from {l : List (Sr × Int)} {x : Sr × Int} (h : x ∈ gatS l) : ∃ y ∈ l, y.1 = x.1 := by
  obtain ⟨h1, h2⟩ := mem_gatS.mp h
  refine Classical.byContradiction fun c => h1 ?_
  rw [← h2]
  refine sumT_none fun z => ?_
  obtain ⟨y, hy, e⟩ := List.mem_map.mp z
  exact c ⟨y, hy, e⟩
theorem gatS_len (l : List (Sr × Int)) : (gatS l).length ≤ l.length := by
  unfold gatS nzH
  rw [(sortHs_perm _).length_eq]
  refine Nat.le_trans (List.length_filter_le _ _) ?_
  have := gatT_len l []
  simpa using this
/-- ascending heaps with the same pairs are one -/
theorem asc_eq : ∀ {a b : Hs}, (a.map (·.1)).Pairwise (fun x y => srLt x y = true) → (b.map (·.1)).Pairwise (fun x y => srLt x y = true) → (∀ x, x ∈ a ↔ x ∈ b) → a = b
  | [], [], _, _, _ => rfl
  | [], y :: b, _, _, h => absurd ((h y).mpr List.mem_cons_self) List.not_mem_nil
  | x :: a, [], _, _, h => absurd ((h x).mp List.mem_cons_self) List.not_mem_nil
  | x :: a, y :: b, ha, hb, h => by
    rw [List.map_cons, List.pairwise_cons] at ha hb
    have lt1 : ∀ z ∈ a, srLt x.1 z.1 = true := fun z hz => ha.1 _ (List.mem_map_of_mem hz)
    have lt2 : ∀ z ∈ b, srLt y.1 z.1 = true := fun z hz => hb.1 _ (List.mem_map_of_mem hz)
    have e : x = y := by
      rcases List.mem_cons.mp ((h x).mp List.mem_cons_self) with e | hx
      · exact e
      · rcases List.mem_cons.mp ((h y).mpr List.mem_cons_self) with e | hy
        · exact e.symm
        · have h1 := lt2 x hx
          have h2 := lt1 y hy
          rw [srLt_asymm h1] at h2
          cases h2
    subst e
    rw [asc_eq ha.2 hb.2 fun z => ?_]
    constructor
    · intro hz
      rcases List.mem_cons.mp ((h z).mp (List.mem_cons_of_mem _ hz)) with e | q
      · have := lt1 z hz
        rw [e, srLt_irrefl] at this
        cases this
      · exact q
    · intro hz
      rcases List.mem_cons.mp ((h z).mpr (List.mem_cons_of_mem _ hz)) with e | q
      · have := lt2 z hz
        rw [e, srLt_irrefl] at this
        cases this
      · exact q
theorem gatS_congr {l m : List (Sr × Int)} (h : ∀ s, sumT l s = sumT m s) : gatS l = gatS m :=
  asc_eq (gatS_asc l) (gatS_asc m) fun x => by rw [mem_gatS, mem_gatS, h]
theorem asc_nodup {a : Hs} (h : (a.map (·.1)).Pairwise (fun x y => srLt x y = true)) : (a.map (·.1)).Nodup := h.imp fun h => srLt_ne h
theorem sumT_mem {hs : Hs} (nd : (hs.map (·.1)).Nodup) {x : Sr × Int} (h : x ∈ hs) : sumT hs x.1 = x.2 := by
  induction hs with
  | nil => exact absurd h List.not_mem_nil
  | cons y r ih =>
    rw [List.map_cons, List.nodup_cons] at nd
    rw [sumT_cons]
    rcases List.mem_cons.mp h with rfl | h
    · rw [if_pos rfl, sumT_none nd.1, Int.add_zero]
    · rw [if_neg (fun e => nd.1 (by rw [e]; exact List.mem_map_of_mem h)), Int.zero_add]
      exact ih nd.2 h
theorem gatS_self {d : Nat} {hs : Hs} (h : HsOk d hs) : gatS hs = hs := by
  refine asc_eq (gatS_asc hs) h.asc fun x => ?_
  rw [mem_gatS]
  have nd := asc_nodup h.asc
  constructor
  · rintro ⟨h1, h2⟩
    have m : x.1 ∈ hs.map (·.1) := Classical.byContradiction fun z => h1 (by rw [← h2]; exact sumT_none z)
    obtain ⟨y, hy, e⟩ := List.mem_map.mp m
    have := sumT_mem nd hy
    rw [e, h2] at this
    have : x = y := Prod.ext e.symm this
    rw [this]
    exact hy
  · intro hx
    exact ⟨h.nz x hx, sumT_mem nd hx⟩
theorem plL_pl {d : Nat} {hs : Hs} (h : ∀ x ∈ hs, SrOk d x.1 ∧ isPl x.1 = true) : plL hs = hs := by
  induction hs with
  | nil => rfl
  | cons x r ih =>
    have hx := h x List.mem_cons_self
    unfold plL at ih ⊢
    rw [List.flatMap_cons, ih fun y hy => h y (List.mem_cons_of_mem _ hy), plA_pl hx.1 hx.2]
    show [(x.1, 1 * x.2)] ++ r = x :: r
    rw [Int.one_mul]
    rfl
theorem plL_mem {hs : Hs} {y : Sr × Int} (h : y ∈ plL hs) : ∃ x ∈ hs, ∃ z ∈ plA x.1, y = (z.1, z.2 * x.2) := by
  unfold plL at h
  obtain ⟨x, hx, h⟩ := List.mem_flatMap.mp h
  obtain ⟨z, hz, rfl⟩ := List.mem_map.mp h
  exact ⟨x, hx, z, hz, rfl⟩
/-- the plain heap is a heap, and plain -/
theorem plain_ok {d : Nat} {hs : Hs} (h : ∀ x ∈ hs, SrOk d x.1) : HsOk d (gatS (plL hs)) ∧ ∀ x ∈ gatS (plL hs), isPl x.1 = true := by
  have part : ∀ x ∈ gatS (plL hs), ∃ pw, Nf d pw x.1 ∧ ∀ y ∈ pw, lowX y x.1.r = true := fun x hx => by
    obtain ⟨y, hy, e⟩ := gatS_from hx
    obtain ⟨z, hz, v, hv, rfl⟩ := plL_mem hy
    obtain ⟨⟨pw, g1, g2, _⟩, _⟩ := plA_ok (h z hz) v hv
    rw [← e]
    exact ⟨pw, g1, g2⟩
  refine ⟨⟨fun x hx => ?_, fun x hx => (mem_gatS.mp hx).1, gatS_asc _⟩, fun x hx => ?_⟩
  · obtain ⟨pw, g1, g2⟩ := part x hx
    exact ⟨⟨pw, g1.m, g1.ok⟩, g1.len⟩
  · obtain ⟨pw, g1, g2⟩ := part x hx
    exact isPl_of g1 g2
/-- a heap is plain exactly if it is its plain heap -/
theorem plain_iff {d : Nat} {hs : Hs} (h : HsOk d hs) : gatS (plL hs) = hs ↔ (hs.all fun x => isPl x.1) = true := by
  rw [List.all_eq_true]
  constructor
  · intro e x hx
    rw [← e] at hx
    exact (plain_ok h.sr).2 x hx
  · intro a
    rw [plL_pl fun x hx => ⟨h.sr x hx, a x hx⟩]
    exact gatS_self h
theorem apt_m {p : Nat} : ∀ (k : Nat) (s : Sr), ∀ z ∈ apt p k s, z.1.m ≤ s.m
  | 0, s, z, h => by
    rw [List.mem_singleton.mp (show z ∈ [(s, (1 : Int))] from h)]
    exact Nat.le_refl _
  | k + 1, s, z, h => by
    unfold apt at h
    split at h
    · rw [List.mem_singleton.mp h]
      exact Nat.le_refl _
    · rcases List.mem_append.mp h with h | h
      · obtain ⟨t, ht, rfl⟩ := List.mem_map.mp h
        obtain ⟨e, _, _, rfl⟩ := sis_mem ht
        exact Nat.le_refl _
      · exact Nat.le_trans (apt_m k _ z h) (Nat.div_le_self _ _)
theorem plS_m : ∀ (pw : List (Nat × Nat)) (L : List (Sr × Int)), ∀ y ∈ plS pw L, ∃ x ∈ L, y.1.m ≤ x.1.m
  | [], L, y, h => ⟨y, h, Nat.le_refl _⟩
  | x :: r, L, y, h => by
    obtain ⟨z, hz, l⟩ := plS_m r _ y h
    obtain ⟨v, hv, hz⟩ := List.mem_flatMap.mp hz
    obtain ⟨u, hu, rfl⟩ := List.mem_map.mp hz
    exact ⟨v, hv, Nat.le_trans l (apt_m _ _ u hu)⟩
theorem plA_m {s : Sr} {y : Sr × Int} (h : y ∈ plA s) : y.1.m ≤ s.m := by
  obtain ⟨x, hx, l⟩ := plS_m _ _ y h
  rw [List.mem_singleton.mp hx] at l
  exact l
theorem plL_len {b : Nat} : ∀ {hs : Hs}, (∀ x ∈ hs, (plA x.1).length ≤ b) → (plL hs).length ≤ hs.length * b
  | [], _ => Nat.zero_le _
  | x :: r, h => by
    have ih := plL_len (hs := r) fun y hy => h y (List.mem_cons_of_mem _ hy)
    have hx := h x List.mem_cons_self
    unfold plL at ih ⊢
    rw [List.flatMap_cons, List.length_append, List.length_map, List.length_cons, Nat.succ_mul]
    omega
theorem sum_abs {b : Nat} : ∀ {l : List (Sr × Int)}, (∀ x ∈ l, x.2.natAbs ≤ b) → ∀ s, (sumT l s).natAbs ≤ l.length * b
  | [], _, _ => by simp [sumT]
  | x :: r, h, s => by
    have ih := sum_abs (fun y hy => h y (List.mem_cons_of_mem _ hy)) s
    have hx := h x List.mem_cons_self
    rw [sumT_cons, List.length_cons, Nat.succ_mul]
    split <;> omega
/-- figures of a plain heap -/
theorem plain_num {d k b n : Nat} {hs : Hs} (h : ∀ x ∈ hs, SrOk d x.1 ∧ x.1.m < 10 ^ k ∧ x.2.natAbs ≤ b) (hl : (plL hs).length ≤ n) : ∀ x ∈ gatS (plL hs), NumK k x.1 ∧ x.2.natAbs ≤ n * b := by
  intro x hx
  obtain ⟨y, hy, e⟩ := gatS_from hx
  obtain ⟨z, hz, v, hv, rfl⟩ := plL_mem hy
  obtain ⟨h1, h2, _⟩ := h z hz
  obtain ⟨⟨pw, g1, g2, _⟩, _⟩ := plA_ok h1 v hv
  have hm := plA_m hv
  dsimp only at e
  rw [← e]
  have em := g1.m
  have c0 := g1.ok.c0
  have r0 := g1.ok.r0
  rw [em] at c0 r0
  refine ⟨⟨by omega, fun c hc => by have := c0 c hc; omega, by omega, g1.ok.l3⟩, ?_⟩
  rw [← (mem_gatS.mp hx).2]
  refine Nat.le_trans (sum_abs (b := b) (fun w hw => ?_) _) (Nat.mul_le_mul_right _ hl)
  obtain ⟨z', hz', v', hv', rfl⟩ := plL_mem hw
  have hb := (h z' hz').2.2
  have sg := (plA_ok (h z' hz').1 v' hv').2
  show (v'.2 * z'.2).natAbs ≤ b
  rcases sg with sg | sg <;> rw [sg] <;> omega
end KL
/-! each look has one plain heap: mathematics -/
namespace KL
open PySem PySem.Spec PyProof.Rows L2 RZ StX SrtO Kw KM PV
/-! ### sums over a range -/
def sumR (n : Nat) (f : Nat → Int) : Int := ((List.range n).map f).sum
theorem sumR_zero (f : Nat → Int) : sumR 0 f = 0 := rfl
theorem sumR_succ (n : Nat) (f : Nat → Int) : sumR (n + 1) f = sumR n f + f n := by
  unfold sumR
  rw [List.range_succ, List.map_append, List.sum_append]
  simp
theorem sumR_congr {n : Nat} {f g : Nat → Int} (h : ∀ j, j < n → f j = g j) : sumR n f = sumR n g := by
  induction n with
  | zero => rfl
  | succ n ih => rw [sumR_succ, sumR_succ, ih fun j hj => h j (by omega), h n (by omega)]
theorem sumR_none {n : Nat} {f : Nat → Int} (h : ∀ j, j < n → f j = 0) : sumR n f = 0 := by
  rw [sumR_congr (g := fun _ => 0) h]
  induction n with
  | zero => rfl
  | succ n ih => rw [sumR_succ, ih fun j hj => h j (by omega)]; rfl
theorem sumR_add (n k : Nat) (f : Nat → Int) : sumR (n + k) f = sumR n f + sumR k fun j => f (n + j) := by
  induction k with
  | zero => rw [sumR_zero, Int.add_zero]; rfl
  | succ k ih => rw [← Nat.add_assoc, sumR_succ, ih, sumR_succ, Int.add_assoc]
theorem sumR_one {n j0 : Nat} (h : j0 < n) {f : Nat → Int} (hf : ∀ j, j < n → j ≠ j0 → f j = 0) : sumR n f = f j0 := by
  induction n with
  | zero => omega
  | succ n ih =>
    rw [sumR_succ]
    by_cases c : j0 = n
    · subst c
      rw [sumR_none fun j hj => hf j (by omega) (by omega), Int.zero_add]
    · rw [ih (by omega) fun j hj ne => hf j (by omega) ne, hf n (by omega) (fun z => c z.symm), Int.add_zero]
theorem sumR_plus (n : Nat) (f g : Nat → Int) : sumR n (fun j => f j + g j) = sumR n f + sumR n g := by
  induction n with
  | zero => rfl
  | succ n ih => rw [sumR_succ, sumR_succ, sumR_succ, ih]; omega
theorem sumR_mul (n : Nat) (c : Int) (f : Nat → Int) : sumR n (fun j => c * f j) = c * sumR n f := by
  induction n with
  | zero => rw [sumR_zero, sumR_zero, Int.mul_zero]
  | succ n ih => rw [sumR_succ, sumR_succ, ih, Int.mul_add]
/-- 1 where n divides z -/
def ind (n : Nat) (z : Int) : Int := if (n : Int) ∣ z then 1 else 0
theorem ind_congr {n : Nat} {a b : Int} (h : (n : Int) ∣ a ↔ (n : Int) ∣ b) : ind n a = ind n b := by
  unfold ind
  by_cases c : (n : Int) ∣ a
  · rw [if_pos c, if_pos (h.mp c)]
  · rw [if_neg c, if_neg (fun z => c (h.mpr z))]
theorem ind_congr2 {n k : Nat} {a b : Int} (h : (n : Int) ∣ a ↔ (k : Int) ∣ b) : ind n a = ind k b := by
  unfold ind
  by_cases c : (n : Int) ∣ a
  · rw [if_pos c, if_pos (h.mp c)]
  · rw [if_neg c, if_neg (fun z => c (h.mpr z))]
theorem dvd_add_left {n a b : Int} (h : n ∣ b) : n ∣ a + b ↔ n ∣ a :=
  ⟨fun d => by have := Int.dvd_sub d h; rwa [Int.add_sub_cancel] at this, fun d => Int.dvd_add d h⟩
theorem dvd_diff {n a b : Int} (h : n ∣ a - b) : n ∣ a ↔ n ∣ b := by
  have e : b + (a - b) = a := by omega
  rw [← e]
  exact dvd_add_left h
theorem ind_shift {n : Nat} {a b : Int} (h : (n : Int) ∣ a - b) : ind n a = ind n b := ind_congr (dvd_diff h)
/-- one of n integers in a row is a multiple -/
theorem ind_row {n : Nat} (hn : 1 ≤ n) (a : Int) : sumR n (fun j => ind n (a + (j : Int))) = 1 := by
  have hb := emodB (-a) (show (0 : Int) < (n : Int) by omega)
  obtain ⟨j0, e0⟩ : ∃ j0 : Nat, (j0 : Int) = (-a) % (n : Int) := ⟨((-a) % (n : Int)).toNat, Int.toNat_of_nonneg hb.1⟩
  have d0 : (n : Int) ∣ a + (j0 : Int) := by
    rw [e0, Int.emod_def]
    exact ⟨-((-a) / (n : Int)), by rw [Int.mul_neg]; omega⟩
  rw [sumR_one (j0 := j0) (by omega)]
  · unfold ind
    rw [if_pos d0]
  · intro j hj ne
    unfold ind
    rw [if_neg fun d => ne ?_]
    have d2 := Int.dvd_sub d d0
    rw [show a + (j : Int) - (a + (j0 : Int)) = (j : Int) - (j0 : Int) by omega] at d2
    have l0 : j0 < n := by omega
    obtain ⟨k, hk⟩ := d2
    have k0 : k = 0 := by
      refine Classical.byContradiction fun c => ?_
      rcases Int.lt_or_gt_of_ne c with c | c
      · have := Int.mul_le_mul_of_nonneg_left (show k ≤ -1 by omega) (show (0 : Int) ≤ (n : Int) by omega)
        omega
      · have := Int.mul_le_mul_of_nonneg_left (show (1 : Int) ≤ k by omega) (show (0 : Int) ≤ (n : Int) by omega)
        omega
    rw [k0, Int.mul_zero] at hk
    omega
/-- .. and so many of k times n -/
theorem ind_rows {n : Nat} (hn : 1 ≤ n) : ∀ (k : Nat) (a : Int), sumR (k * n) (fun j => ind n (a + (j : Int))) = (k : Int)
  | 0, a => by rw [Nat.zero_mul]; rfl
  | k + 1, a => by
    rw [Nat.succ_mul, sumR_add, ind_rows hn k a]
    have e : sumR n (fun j => ind n (a + ((k * n + j : Nat) : Int))) = sumR n (fun j => ind n (a + (k : Int) * (n : Int) + (j : Int))) := sumR_congr fun j _ => by
      rw [Int.natCast_add, Int.natCast_mul, Int.add_assoc]
    rw [e, ind_row hn]
    rfl
/-- along a row of steps that is a unit by n -/
theorem ind_unit {n : Nat} (hn : 1 ≤ n) {b : Int} (hb : Nat.Coprime n b.natAbs) (k : Nat) (a : Int) : sumR (k * n) (fun j => ind n (a + (j : Int) * b)) = (k : Int) := by
  obtain ⟨u, hu⟩ := inv_ex hb
  rw [← ind_rows hn k (u * a)]
  refine sumR_congr fun j _ => ind_congr ?_
  have cu : Nat.Coprime n u.natAbs := by
    have h1 : (n : Int) ∣ u * b - 1 := hu
    refine Nat.Coprime.symm ?_
    have g1 : ((Nat.gcd u.natAbs n : Nat) : Int) ∣ (n : Int) := Int.natCast_dvd_natCast.mpr (Nat.gcd_dvd_right _ _)
    have g2 : ((Nat.gcd u.natAbs n : Nat) : Int) ∣ u := Int.ofNat_dvd_left.mpr (Nat.gcd_dvd_left _ _)
    have g3 := Int.dvd_sub (Int.dvd_mul_of_dvd_left g2 (c := b)) (Int.dvd_trans g1 h1)
    rw [show u * b - (u * b - 1) = 1 by omega] at g3
    exact Nat.dvd_one.mp (Int.natCast_dvd_natCast.mp g3)
  have key : (n : Int) ∣ a + (j : Int) * b ↔ (n : Int) ∣ u * (a + (j : Int) * b) := by
    constructor
    · exact fun d => Int.dvd_mul_of_dvd_right d
    · intro d
      rw [dvd_nat] at d ⊢
      rw [Int.natAbs_mul] at d
      exact cu.dvd_of_dvd_mul_left d
  rw [key]
  refine dvd_diff ?_
  obtain ⟨z, hz⟩ := hu
  exact ⟨(j : Int) * z, by grind⟩
/-- along any row of steps -/
theorem ind_walk {n N : Nat} (hn : 1 ≤ n) (hN : n ∣ N) (a b : Int) : sumR N (fun j => ind n (a + (j : Int) * b)) = ((N / n * Nat.gcd n b.natAbs : Nat) : Int) * ind (Nat.gcd n b.natAbs) a := by
  obtain ⟨g, hg⟩ : ∃ g, g = Nat.gcd n b.natAbs := ⟨_, rfl⟩
  rw [← hg]
  have g1 : 1 ≤ g := by rw [hg]; exact Nat.gcd_pos_of_pos_left _ hn
  have gn : g ∣ n := by rw [hg]; exact Nat.gcd_dvd_left _ _
  have gb : (g : Int) ∣ b := by rw [hg]; exact Int.ofNat_dvd_left.mpr (Nat.gcd_dvd_right _ _)
  by_cases c : (g : Int) ∣ a
  · obtain ⟨n', rfl⟩ := gn
    obtain ⟨a', rfl⟩ := c
    obtain ⟨b', rfl⟩ := gb
    have n1 : 1 ≤ n' := Nat.pos_of_mul_pos_left hn |> fun h => by
      rcases Nat.eq_zero_or_pos n' with z | z
      · rw [z, Nat.mul_zero] at hn; omega
      · exact z
    obtain ⟨K, rfl⟩ := hN
    have cb : Nat.Coprime n' b'.natAbs := by
      rw [Int.natAbs_mul, Int.natAbs_natCast, Nat.gcd_mul_left] at hg
      have : g * 1 = g * Nat.gcd n' b'.natAbs := by rw [Nat.mul_one]; exact hg
      exact (Nat.eq_of_mul_eq_mul_left (by omega) this).symm
    have e1 : ind g ((g : Int) * a') = 1 := by unfold ind; rw [if_pos (Int.dvd_mul_right _ _)]
    have e2 : g * n' * K / (g * n') * g = K * g := by rw [Nat.mul_div_cancel_left _ hn]
    rw [e1, e2, Int.mul_one, ← ind_unit n1 cb (K * g) a']
    rw [show g * n' * K = K * g * n' by rw [Nat.mul_comm (g * n') K, Nat.mul_assoc]]
    refine sumR_congr fun j _ => ind_congr2 ?_
    rw [show (g : Int) * a' + (j : Int) * ((g : Int) * b') = (g : Int) * (a' + (j : Int) * b') by grind, Int.natCast_mul]
    exact Int.mul_dvd_mul_iff_left (by omega)
  · have e1 : ind g a = 0 := by unfold ind; rw [if_neg c]
    rw [e1, Int.mul_zero]
    refine sumR_none fun j _ => ?_
    unfold ind
    rw [if_neg fun d => c ?_]
    have d2 := Int.dvd_trans (Int.natCast_dvd_natCast.mpr gn) d
    exact (dvd_add_left (Int.dvd_mul_of_dvd_right gb)).mp d2
/-! ### sums of stripes of any numbers -/
structure Gs where
  w : Int
  n : Nat
  b : List Int
  r : Int
def valG (e : Gs) (x : List Int) : Int := e.w * ind e.n (dotI e.b x - e.r)
def totG (L : List Gs) (x : List Int) : Int := (L.map fun e => valG e x).sum
theorem totG_cons (e : Gs) (L : List Gs) (x : List Int) : totG (e :: L) x = valG e x + totG L x := by
  unfold totG
  rw [List.map_cons, List.sum_cons]
def stepG (N : Nat) (s : List Int) (e : Gs) : Gs := ⟨e.w * ((N / e.n * Nat.gcd e.n (dotI e.b s).natAbs : Nat) : Int), Nat.gcd e.n (dotI e.b s).natAbs, e.b, e.r⟩
theorem dot_mov : ∀ (cs xs ts : List Int) (k : Int), xs.length = ts.length → dotI cs (movI xs ts k) = dotI cs xs + k * dotI cs ts
  | [], xs, ts, k, _ => by simp [dotI]
  | c :: cs, [], [], k, _ => by simp [dotI, movI]
  | c :: cs, x :: xs, t :: ts, k, h => by
    have ih := dot_mov cs xs ts k (by simpa using h)
    show dotI (c :: cs) ((x + k * t) :: movI xs ts k) = _
    rw [dot_cons, dot_cons, dot_cons, ih]
    grind
theorem movI_len {xs ts : List Int} (h : xs.length = ts.length) (k : Int) : (movI xs ts k).length = xs.length := by
  unfold movI
  rw [List.length_zipWith]
  omega
theorem stepG_val {N : Nat} {s x : List Int} {e : Gs} (hn : 1 ≤ e.n) (hN : e.n ∣ N) (hl : x.length = s.length) : valG (stepG N s e) x = sumR N fun j => valG e (movI x s (j : Int)) := by
  unfold valG stepG
  dsimp only
  rw [Int.mul_assoc, ← ind_walk hn hN, ← sumR_mul]
  refine sumR_congr fun j _ => ?_
  rw [dot_mov _ _ _ _ hl, show dotI e.b x + (j : Int) * dotI e.b s - e.r = dotI e.b x - e.r + (j : Int) * dotI e.b s by omega]
theorem stepG_tot {N : Nat} {s x : List Int} (hl : x.length = s.length) : ∀ {L : List Gs}, (∀ e ∈ L, 1 ≤ e.n ∧ e.n ∣ N) → totG (L.map (stepG N s)) x = sumR N fun j => totG L (movI x s (j : Int))
  | [], _ => by
    show (0 : Int) = _
    exact (sumR_none fun _ _ => rfl).symm
  | e :: L, h => by
    have he := h e List.mem_cons_self
    rw [List.map_cons, totG_cons, stepG_val he.1 he.2 hl, stepG_tot hl fun y hy => h y (List.mem_cons_of_mem _ hy), ← sumR_plus]
    refine sumR_congr fun j _ => ?_
    rw [totG_cons]
def stepsG (N : Nat) (ss : List (List Int)) (e : Gs) : Gs := ss.foldl (fun e s => stepG N s e) e
theorem stepsG_tot {N d : Nat} : ∀ (ss : List (List Int)) (L : List Gs), (∀ s ∈ ss, s.length = d) → (∀ e ∈ L, 1 ≤ e.n ∧ e.n ∣ N) → (∀ x : List Int, x.length = d → totG L x = 0) → ∀ x : List Int, x.length = d → totG (L.map (stepsG N ss)) x = 0
  | [], L, _, _, h, x, hx => by
    have : L.map (stepsG N []) = L := by
      show L.map (fun e => e) = L
      exact List.map_id' L
    rw [this]
    exact h x hx
  | s :: ss, L, hs, hL, h, x, hx => by
    have e : L.map (stepsG N (s :: ss)) = (L.map (stepG N s)).map (stepsG N ss) := by
      rw [List.map_map]
      rfl
    rw [e]
    have hsl := hs s List.mem_cons_self
    refine stepsG_tot ss _ (fun t ht => hs t (List.mem_cons_of_mem _ ht)) (fun y hy => ?_) (fun z hz => ?_) x hx
    · obtain ⟨u, hu, rfl⟩ := List.mem_map.mp hy
      obtain ⟨h1, h2⟩ := hL u hu
      exact ⟨Nat.gcd_pos_of_pos_left _ h1, Nat.dvd_trans (Nat.gcd_dvd_left _ _) h2⟩
    · rw [stepG_tot (hz.trans hsl.symm) hL]
      exact sumR_none fun j _ => h _ (by rw [movI_len (hz.trans hsl.symm)]; exact hz)
theorem stepsG_b (N : Nat) : ∀ (ss : List (List Int)) (e : Gs), (stepsG N ss e).b = e.b ∧ (stepsG N ss e).r = e.r ∧ (stepsG N ss e).n ∣ e.n ∧ ∀ s ∈ ss, ((stepsG N ss e).n : Int) ∣ dotI e.b s
  | [], e => ⟨rfl, rfl, Nat.dvd_refl _, fun _ h => absurd h List.not_mem_nil⟩
  | s :: ss, e => by
    obtain ⟨h1, h2, h3, h4⟩ := stepsG_b N ss (stepG N s e)
    refine ⟨h1, h2, Nat.dvd_trans h3 (Nat.gcd_dvd_left _ _), fun t ht => ?_⟩
    rcases List.mem_cons.mp ht with rfl | ht
    · exact Int.dvd_trans (Int.natCast_dvd_natCast.mpr h3) (Int.ofNat_dvd_left.mpr (Nat.gcd_dvd_right _ _))
    · exact h4 t ht
theorem stepsG_top {N : Nat} (hN : 1 ≤ N) : ∀ (ss : List (List Int)) (e : Gs), 1 ≤ e.n → e.n ∣ N → (∀ s ∈ ss, (e.n : Int) ∣ dotI e.b s) → (stepsG N ss e).n = e.n ∧ (stepsG N ss e).w = e.w * ((N ^ ss.length : Nat) : Int)
  | [], e, _, _, _ => ⟨rfl, by show e.w = e.w * 1; omega⟩
  | s :: ss, e, h1, h2, h => by
    have g : Nat.gcd e.n (dotI e.b s).natAbs = e.n := Nat.gcd_eq_left (Int.ofNat_dvd_left.mp (h s List.mem_cons_self))
    have e0 : (stepG N s e).n = e.n := g
    have ew : (stepG N s e).w = e.w * (N : Int) := by
      show e.w * ((N / e.n * Nat.gcd e.n (dotI e.b s).natAbs : Nat) : Int) = _
      rw [g, Nat.div_mul_cancel h2]
    obtain ⟨k1, k2⟩ := stepsG_top hN ss (stepG N s e) (by rw [e0]; exact h1) (by rw [e0]; exact h2) (fun t ht => by rw [e0]; exact h t (List.mem_cons_of_mem _ ht))
    refine ⟨k1.trans e0, ?_⟩
    show (stepsG N ss (stepG N s e)).w = _
    rw [k2, ew, List.length_cons, Nat.pow_succ, Int.natCast_mul, Int.mul_assoc, Int.mul_comm (N : Int)]
/-! ### signs by primes -/
def alt : List Int → (Int → Int) → Int → Int
  | [], f, t => f t
  | s :: ss, f, t => alt ss f t - alt ss f (t + s)
theorem alt_zero {f : Int → Int} (h : ∀ t, f t = 0) : ∀ (ss : List Int) (t : Int), alt ss f t = 0
  | [], t => h t
  | s :: ss, t => by
    show alt ss f t - alt ss f (t + s) = 0
    rw [alt_zero h, alt_zero h]
    rfl
theorem alt_add (f g : Int → Int) : ∀ (ss : List Int) (t : Int), alt ss (fun t => f t + g t) t = alt ss f t + alt ss g t
  | [], t => rfl
  | s :: ss, t => by
    show alt ss _ t - alt ss _ (t + s) = alt ss f t - alt ss f (t + s) + (alt ss g t - alt ss g (t + s))
    rw [alt_add f g ss t, alt_add f g ss (t + s)]
    omega
theorem alt_per {f : Int → Int} {s : Int} (h : ∀ t, f (t + s) = f t) : ∀ (ss : List Int) (t : Int), alt ss f (t + s) = alt ss f t
  | [], t => h t
  | u :: ss, t => by
    show alt ss f (t + s) - alt ss f (t + s + u) = alt ss f t - alt ss f (t + u)
    rw [alt_per h, show t + s + u = t + u + s by omega, alt_per h]
theorem alt_none {f : Int → Int} : ∀ (ss : List Int), (∃ s ∈ ss, ∀ t, f (t + s) = f t) → ∀ t, alt ss f t = 0
  | [], h, _ => by obtain ⟨s, hs, _⟩ := h; exact absurd hs List.not_mem_nil
  | u :: ss, h, t => by
    obtain ⟨s, hs, hp⟩ := h
    show alt ss f t - alt ss f (t + u) = 0
    rcases List.mem_cons.mp hs with rfl | hs
    · rw [alt_per hp]
      omega
    · rw [alt_none ss ⟨s, hs, hp⟩, alt_none ss ⟨s, hs, hp⟩]
      rfl
/-- where only the place itself counts -/
theorem alt_off {f : Int → Int} {q : Int} {bad : Int → Prop} (hf : ∀ t, bad t → f t = 0) (hb : ∀ t s, q ∣ s → bad t → bad (t + s)) : ∀ (ss : List Int), (∀ s ∈ ss, q ∣ s) → ∀ t, bad t → alt ss f t = 0
  | [], _, t, h => hf t h
  | s :: ss, hs, t, h => by
    have h1 := alt_off hf hb ss (fun u hu => hs u (List.mem_cons_of_mem _ hu))
    show alt ss f t - alt ss f (t + s) = 0
    rw [h1 t h, h1 _ (hb t s (hs s List.mem_cons_self) h)]
    rfl
end KL
/-! each look has one plain heap: mathematics, the end -/
namespace KL
open PySem PySem.Spec PyProof.Rows L2 RZ StX SrtO Kw KM PV
theorem dot_range {d : Nat} {b : List Int} (h : b.length = d) (f : Nat → Int) : dotI b ((List.range d).map f) = sumR d fun l => b.getD l 0 * f l := by
  unfold dotI sumR
  congr 1
  refine List.ext_getElem? fun i => ?_
  rw [List.getElem?_zipWith, List.getElem?_map, List.getElem?_map]
  by_cases c : i < d
  · rw [List.getElem?_range c, List.getElem?_eq_getElem (by omega)]
    simp [List.getD, List.getElem?_eq_getElem (show i < b.length by omega)]
  · rw [List.getElem?_eq_none (l := b) (by omega), List.getElem?_eq_none (l := List.range d) (by rw [List.length_range]; omega)]
    rfl
/-- u in the place i, v less in the place j -/
def vc (d i j : Nat) (u v : Int) : List Int := (List.range d).map fun l => (if l = i then u else 0) - (if l = j then v else 0)
theorem vc_len (d i j : Nat) (u v : Int) : (vc d i j u v).length = d := by unfold vc; rw [List.length_map, List.length_range]
theorem vc_dot {d i j : Nat} {b : List Int} (h : b.length = d) (hi : i < d) (hj : j < d) (u v : Int) : dotI b (vc d i j u v) = b.getD i 0 * u - b.getD j 0 * v := by
  unfold vc
  rw [dot_range h]
  have e : sumR d (fun l => b.getD l 0 * ((if l = i then u else 0) - (if l = j then v else 0))) = sumR d (fun l => b.getD l 0 * (if l = i then u else 0) + b.getD l 0 * (if l = j then -v else 0)) := sumR_congr fun l _ => by
    by_cases c1 : l = i <;> by_cases c2 : l = j
    · rw [if_pos c1, if_pos c2, if_pos c2]; grind
    · rw [if_pos c1, if_neg c2, if_neg c2]; grind
    · rw [if_neg c1, if_pos c2, if_pos c2]; grind
    · rw [if_neg c1, if_neg c2, if_neg c2]; grind
  rw [e, sumR_plus, sumR_one hi (fun l _ ne => by rw [if_neg ne, Int.mul_zero]), sumR_one hj (fun l _ ne => by rw [if_neg ne, Int.mul_zero]), if_pos rfl, if_pos rfl, Int.mul_neg]
  omega
/-- the steps across, and m along each number -/
def ssG (d m : Nat) (c : List Int) : List (List Int) := (List.range d).flatMap fun i => vc d i i (m : Int) 0 :: (List.range d).map fun j => vc d i j (c.getD j 0) (c.getD i 0)
theorem ssG_mem {d m : Nat} {c s : List Int} (h : s ∈ ssG d m c) : (∃ i, i < d ∧ s = vc d i i (m : Int) 0) ∨ ∃ i j, i < d ∧ j < d ∧ s = vc d i j (c.getD j 0) (c.getD i 0) := by
  obtain ⟨i, hi, h⟩ := List.mem_flatMap.mp h
  have hi := List.mem_range.mp hi
  rcases List.mem_cons.mp h with h | h
  · exact .inl ⟨i, hi, h⟩
  · obtain ⟨j, hj, e⟩ := List.mem_map.mp h
    exact .inr ⟨i, j, hi, List.mem_range.mp hj, e.symm⟩
theorem ssG_one {d m : Nat} {c : List Int} {i : Nat} (hi : i < d) : vc d i i (m : Int) 0 ∈ ssG d m c := List.mem_flatMap.mpr ⟨i, List.mem_range.mpr hi, List.mem_cons_self⟩
theorem ssG_two {d m : Nat} {c : List Int} {i j : Nat} (hi : i < d) (hj : j < d) : vc d i j (c.getD j 0) (c.getD i 0) ∈ ssG d m c := List.mem_flatMap.mpr ⟨i, List.mem_range.mpr hi, List.mem_cons_of_mem _ (List.mem_map.mpr ⟨j, List.mem_range.mpr hj, rfl⟩)⟩
theorem dvd_dot {T k : Int} : ∀ (b v : List Int), (∀ c ∈ b, T ∣ k * c) → T ∣ k * dotI b v
  | [], v, _ => by simp [dotI]
  | c :: b, [], _ => by simp [dotI]
  | c :: b, x :: v, h => by
    rw [dot_cons, Int.mul_add, ← Int.mul_assoc]
    exact Int.dvd_add (Int.dvd_mul_of_dvd_left (h c List.mem_cons_self)) (dvd_dot b v fun y hy => h y (List.mem_cons_of_mem _ hy))
/-- a cell across which the numbers are 1 -/
theorem sol_ex {d : Nat} {pw : List (Nat × Nat)} {s : Sr} (h : Nf d pw s) : ∃ v : List Int, v.length = d ∧ (s.m : Int) ∣ dotI s.c v - 1 := by
  have hw := h.ok.per.ok
  have key : ∀ i : Nat, ∃ u : Int, ∀ x ∈ pw, ((qOf x : Nat) : Int) ∣ u - (open Classical in if ∃ c, IsFst x.1 s.c i c then 1 else 0) := fun i => crt hw _
  obtain ⟨U, hU⟩ : ∃ U : Nat → Int, ∀ i, ∀ x ∈ pw, ((qOf x : Nat) : Int) ∣ U i - (open Classical in if ∃ c, IsFst x.1 s.c i c then 1 else 0) := ⟨fun i => Classical.choose (key i), fun i => Classical.choose_spec (key i)⟩
  refine ⟨(List.range d).map U, by rw [List.length_map, List.length_range], ?_⟩
  rw [← h.m]
  refine m_dvd hw fun x hx => ?_
  obtain ⟨k, c, hf⟩ := fst_ex (h.ok.free hx)
  have h1 : ((qOf x : Nat) : Int) ∣ 1 * c - 1 := h.u x hx k c hf
  have kl : k < d := by rw [← h.len]; exact (List.getElem?_eq_some_iff.mp hf.at_).1
  rw [dot_range h.len]
  have e1 : ∀ l, l < d → l ≠ k → ((qOf x : Nat) : Int) ∣ s.c.getD l 0 * U l := fun l _ ne => by
    have h2 := hU l x hx
    rw [if_neg (fun ⟨c', z⟩ => ne (hf.uniq z).1.symm), Int.sub_zero] at h2
    exact Int.dvd_mul_of_dvd_right h2
  have sum : ∀ n, n ≤ d → ((qOf x : Nat) : Int) ∣ sumR n (fun l => s.c.getD l 0 * U l) - (if k < n then 1 else 0) := by
    intro n
    induction n with
    | zero => intro _; rw [if_neg (Nat.not_lt_zero _)]; exact Int.dvd_zero _
    | succ n ih =>
      intro hn
      have ih := ih (by omega)
      rw [sumR_succ]
      by_cases c2 : n = k
      · subst c2
        rw [if_pos (Nat.lt_succ_self _)]
        rw [if_neg (Nat.lt_irrefl _), Int.sub_zero] at ih
        have h2 := hU n x hx
        rw [if_pos ⟨c, hf⟩] at h2
        have ec : s.c.getD n 0 = c := by rw [List.getD, hf.at_]; rfl
        rw [ec]
        have h3 := Int.dvd_add ih (Int.dvd_add (Int.dvd_mul_of_dvd_right h2 (b := c)) h1)
        rwa [show sumR n (fun l => s.c.getD l 0 * U l) + (c * (U n - 1) + (1 * c - 1)) = sumR n (fun l => s.c.getD l 0 * U l) + c * U n - 1 by grind] at h3
      · have h3 := Int.dvd_add ih (e1 n (by omega) c2)
        by_cases c3 : k < n
        · rw [if_pos c3] at h3
          rw [if_pos (by omega)]
          rwa [show sumR n (fun l => s.c.getD l 0 * U l) - 1 + s.c.getD n 0 * U n = sumR n (fun l => s.c.getD l 0 * U l) + s.c.getD n 0 * U n - 1 by omega] at h3
        · rw [if_neg c3, Int.sub_zero] at h3
          rw [if_neg (by omega), Int.sub_zero]
          exact h3
  have := sum d (Nat.le_refl _)
  rwa [if_pos kl] at this
/-- one of the sisters is not low -/
theorem nonlow_ex {d : Nat} {pw : List (Nat × Nat)} {s : Sr} (h : Nf d pw s) {x : Nat × Nat} (hx : x ∈ pw) : ∃ δ : Int, lowX x (s.r + δ * ((mOf pw / x.1 : Nat) : Int)) = false := by
  have hw := h.ok.per.ok
  have hxP := hw.mem hx
  have p2 := PN_lt _ hxP
  have k1 := hw.pos x hx
  obtain ⟨Q, hQ⟩ : ∃ Q, qOf x = x.1 * Q := ⟨x.1 ^ (x.2 - 1), by
    unfold qOf
    rw [Nat.mul_comm, ← Nat.pow_succ]
    congr 1
    omega⟩
  have q1 := (qOf_le hw hx).1
  have Q1 : 1 ≤ Q := by
    rcases Nat.eq_zero_or_pos Q with z | z
    · rw [hQ, z, Nat.mul_zero] at q1
      omega
    · exact z
  have dm := part_dvd_mOf hw hx
  obtain ⟨w, hw'⟩ : ∃ w, mOf pw / qOf x = w := ⟨_, rfl⟩
  have em : mOf pw = qOf x * w := by rw [← hw']; exact (Nat.mul_div_cancel' dm).symm
  have nw : ¬ x.1 ∣ w := fun z => (cof_dvd hw hx hx).mp (by rw [hw']; exact z) rfl
  have emp : mOf pw / x.1 = w * Q := by
    rw [em, hQ, Nat.mul_assoc, Nat.mul_div_cancel_left _ (by omega), Nat.mul_comm]
  have cw : Nat.Coprime x.1 (w : Int).natAbs := by rw [Int.natAbs_natCast]; exact cop_of hxP nw
  obtain ⟨u, hu⟩ := inv_ex cw
  have p0 : (0 : Int) < (x.1 : Int) := by omega
  have Q0 : (0 : Int) < (Q : Int) := by omega
  have rb := emodB s.r (show (0 : Int) < (x.1 : Int) * (Q : Int) from Int.mul_pos p0 Q0)
  have em2 := Int.emod_add_mul_ediv s.r ((x.1 : Int) * (Q : Int))
  generalize s.r % ((x.1 : Int) * (Q : Int)) = R at rb em2
  generalize s.r / ((x.1 : Int) * (Q : Int)) = i at em2
  have em3 := Int.emod_add_mul_ediv R (Q : Int)
  have bb := emodB R Q0
  generalize R % (Q : Int) = b at em3 bb
  generalize R / (Q : Int) = a at em3
  refine ⟨((x.1 : Int) - 1 - a) * u, ?_⟩
  obtain ⟨z, hz⟩ := hu
  have eq : ((qOf x : Nat) : Int) = (x.1 : Int) * (Q : Int) := by rw [hQ, Int.natCast_mul]
  have eqd : ((qOf x : Nat) : Int) / (x.1 : Int) = (Q : Int) := by
    rw [eq]
    exact Int.mul_ediv_cancel_left _ (by omega)
  have val : (s.r + ((x.1 : Int) - 1 - a) * u * ((mOf pw / x.1 : Nat) : Int)) % ((qOf x : Nat) : Int) = ((x.1 : Int) - 1) * Q + b := by
    rw [emp, eq, Int.natCast_mul]
    have e5 : s.r + ((x.1 : Int) - 1 - a) * u * ((w : Int) * (Q : Int)) = (((x.1 : Int) - 1) * Q + b) + ((x.1 : Int) * (Q : Int)) * (i + ((x.1 : Int) - 1 - a) * z) := by
      have e6 : u * (w : Int) = 1 + (x.1 : Int) * z := by omega
      have e7 : ((x.1 : Int) - 1 - a) * u * ((w : Int) * (Q : Int)) = ((x.1 : Int) - 1 - a) * (u * (w : Int)) * (Q : Int) := by grind
      rw [e7, e6, ← em2, ← em3]
      grind
    rw [e5, Int.add_mul_emod_self_left]
    have h1 : ((x.1 : Int) - 1) * (Q : Int) = (x.1 : Int) * Q - Q := by rw [Int.sub_mul, Int.one_mul]
    have h2 : 0 ≤ ((x.1 : Int) - 1) * (Q : Int) := Int.mul_nonneg (by omega) (by omega)
    exact Int.emod_eq_of_lt (by omega) (by omega)
  unfold lowX
  rw [val, eqd, eq]
  refine decide_eq_false ?_
  have h1 : ((x.1 : Int) - 1) * (Q : Int) = (x.1 : Int) * Q - Q := by rw [Int.sub_mul, Int.one_mul]
  omega
theorem max_ex {α : Type} (f : α → Nat) : ∀ (l : List α), l ≠ [] → ∃ x ∈ l, ∀ y ∈ l, f y ≤ f x
  | [], h => absurd rfl h
  | [x], _ => ⟨x, List.mem_cons_self, fun y hy => by rw [List.mem_singleton.mp hy]; exact Nat.le_refl _⟩
  | x :: y :: r, _ => by
    obtain ⟨z, hz, h⟩ := max_ex f (y :: r) (List.cons_ne_nil _ _)
    by_cases c : f z ≤ f x
    · refine ⟨x, List.mem_cons_self, fun u hu => ?_⟩
      rcases List.mem_cons.mp hu with rfl | hu
      · exact Nat.le_refl _
      · exact Nat.le_trans (h u hu) c
    · refine ⟨z, List.mem_cons_of_mem _ hz, fun u hu => ?_⟩
      rcases List.mem_cons.mp hu with rfl | hu
      · omega
      · exact h u hu
def toG (x : Sr × Int) : Gs := ⟨x.2, x.1.m, x.1.c, x.1.r⟩
theorem tint_G (ys : List Int) : ∀ hs : Hs, tintOf hs ys = totG (hs.map toG) ys
  | [] => rfl
  | x :: r => by
    rw [tint_cons, List.map_cons, totG_cons, tint_G ys r]
    congr 1
    show _ = x.2 * ind x.1.m (dotI x.1.c ys - x.1.r)
    unfold onS ind
    by_cases c : (dotI x.1.c ys - x.1.r) % (x.1.m : Int) = 0
    · rw [decide_eq_true c, if_pos rfl, if_pos (Int.dvd_of_emod_eq_zero c), Int.mul_one]
    · rw [decide_eq_false c, if_neg Bool.false_ne_true, if_neg (fun z => c (Int.emod_eq_zero_of_dvd z)), Int.mul_zero]
def prodN (hs : Hs) : Nat := hs.foldr (fun x n => x.1.m * n) 1
theorem prodN_dvd : ∀ {hs : Hs} {x : Sr × Int}, x ∈ hs → x.1.m ∣ prodN hs
  | y :: r, x, h => by
    show x.1.m ∣ y.1.m * prodN r
    rcases List.mem_cons.mp h with rfl | h
    · exact Nat.dvd_mul_right _ _
    · exact Nat.dvd_trans (prodN_dvd h) (Nat.dvd_mul_left _ _)
theorem prodN_pos : ∀ {hs : Hs}, (∀ x ∈ hs, 1 ≤ x.1.m) → 1 ≤ prodN hs
  | [], _ => Nat.le_refl _
  | y :: r, h => Nat.mul_pos (h y List.mem_cons_self) (prodN_pos fun x hx => h x (List.mem_cons_of_mem _ hx))
def scl (t : Int) (v : List Int) : List Int := v.map fun x => t * x
theorem dot_scl (t : Int) : ∀ (b v : List Int), dotI b (scl t v) = t * dotI b v
  | [], v => by simp [dotI]
  | c :: b, [] => by simp [dotI, scl]
  | c :: b, x :: v => by
    have ih := dot_scl t b v
    show dotI (c :: b) (t * x :: scl t v) = _
    rw [dot_cons, dot_cons, ih]
    grind
theorem alt_tot (v : List Int) (ss : List Int) (t : Int) : ∀ L : List Gs, alt ss (fun t => totG L (scl t v)) t = (L.map fun e => alt ss (fun t => valG e (scl t v)) t).sum
  | [] => alt_zero (fun _ => rfl) ss t
  | e :: L => by
    have e1 : (fun t => totG (e :: L) (scl t v)) = fun t => valG e (scl t v) + totG L (scl t v) := funext fun t => totG_cons e L _
    rw [e1, alt_add, alt_tot v ss t L, List.map_cons, List.sum_cons]
theorem q_dvd_cof {pw : List (Nat × Nat)} (h : Pw pw) {x y : Nat × Nat} (hx : x ∈ pw) (hy : y ∈ pw) (ne : y.1 ≠ x.1) : qOf y ∣ mOf pw / x.1 := by
  have p2 := PN_lt _ (h.mem hx)
  have k1 := h.pos x hx
  obtain ⟨Q, hQ⟩ : ∃ Q, qOf x = x.1 * Q := ⟨x.1 ^ (x.2 - 1), by
    unfold qOf
    rw [Nat.mul_comm, ← Nat.pow_succ]
    congr 1
    omega⟩
  have dm := part_dvd_mOf h hx
  have e : mOf pw / x.1 = mOf pw / qOf x * Q := by
    obtain ⟨w, hw⟩ := dm
    have hw : mOf pw = qOf x * w := hw
    have q1 := (qOf_le h hx).1
    rw [hw, Nat.mul_div_cancel_left _ (by omega), hQ, Nat.mul_assoc, Nat.mul_div_cancel_left _ (by omega), Nat.mul_comm]
  rw [e]
  exact Nat.dvd_trans (cof_q h hx hy ne) (Nat.dvd_mul_right _ _)
theorem proper_dvd {pw : List (Nat × Nat)} (h : Pw pw) {T : Nat} (d : T ∣ mOf pw) (ne : T ≠ mOf pw) : ∃ x ∈ pw, T ∣ mOf pw / x.1 := by
  obtain ⟨k, hk⟩ := d
  have m1 := mOf_pos h
  have k1 : k ≠ 1 := fun z => ne (by rw [hk, z, Nat.mul_one])
  obtain ⟨pv, hv, ev, hs, _⟩ := dvd_pw h k ⟨T, by rw [hk, Nat.mul_comm]⟩
  cases pv with
  | nil => exact absurd ev.symm k1
  | cons y r =>
    obtain ⟨x, hx, e⟩ := mem_of_sub hs (y := y) List.mem_cons_self
    have yk : y.1 ∣ k := by
      rw [← ev]
      exact (dvd_mOf (hv.mem List.mem_cons_self) hv).mpr List.mem_cons_self
    obtain ⟨l, hl⟩ := yk
    have p2 := PN_lt _ (h.mem hx)
    refine ⟨x, hx, l, ?_⟩
    rw [hk, hl, ← e, ← Nat.mul_assoc, Nat.mul_comm T, Nat.mul_assoc, Nat.mul_div_cancel_left _ (by omega)]
theorem one_sum {α : Type} {l : List α} {f : α → Int} {x : α} (nd : l.Nodup) (hx : x ∈ l) (h : ∀ y ∈ l, y ≠ x → f y = 0) : (l.map f).sum = f x := by
  induction l with
  | nil => exact absurd hx List.not_mem_nil
  | cons y r ih =>
    rw [List.nodup_cons] at nd
    rw [List.map_cons, List.sum_cons]
    have zero : ∀ l : List α, (∀ y ∈ l, f y = 0) → (l.map f).sum = 0 := by
      intro l
      induction l with
      | nil => intro _; rfl
      | cons a b ih => intro hh; rw [List.map_cons, List.sum_cons, hh a List.mem_cons_self, ih fun z hz => hh z (List.mem_cons_of_mem _ hz)]; rfl
    rcases List.mem_cons.mp hx with rfl | hx
    · rw [zero r fun z hz => h z (List.mem_cons_of_mem _ hz) fun e => nd.1 (e ▸ hz), Int.add_zero]
    · rw [h y List.mem_cons_self (fun e => nd.1 (e ▸ hx)), Int.zero_add]
      exact ih nd.2 hx fun z hz => h z (List.mem_cons_of_mem _ hz)
/-- a plain heap that is 0 everywhere is empty -/
theorem plain_zero {d : Nat} {hs : Hs} (hp : ∀ x ∈ hs, ∃ pw, Nf d pw x.1 ∧ ∀ y ∈ pw, lowX y x.1.r = true) (nd : (hs.map (·.1)).Nodup) (nz : ∀ x ∈ hs, x.2 ≠ 0) (h0 : ∀ ys : List Int, ys.length = d → tintOf hs ys = 0) : hs = [] := by
  refine Classical.byContradiction fun hne => ?_
  obtain ⟨x0, hx0, hmax⟩ := max_ex (fun x : Sr × Int => x.1.m) hs hne
  obtain ⟨pw, hN, hlow⟩ := hp x0 hx0
  have hw := hN.ok.per.ok
  obtain ⟨m, hm⟩ : ∃ m, m = x0.1.m := ⟨_, rfl⟩
  have emw : mOf pw = m := by rw [hm]; exact hN.m
  have m1 : 1 ≤ m := by rw [← emw]; exact mOf_pos hw
  have pos : ∀ x ∈ hs, 1 ≤ x.1.m := fun x hx => by
    obtain ⟨pv, h, _⟩ := hp x hx
    rw [← h.m]
    exact mOf_pos h.ok.per.ok
  have N1 := prodN_pos pos
  obtain ⟨v, vl, hv⟩ := sol_ex hN
  rw [← hm] at hv
  -- the steps
  have hL : ∀ e ∈ hs.map toG, 1 ≤ e.n ∧ e.n ∣ prodN hs := fun e he => by
    obtain ⟨x, hx, rfl⟩ := List.mem_map.mp he
    exact ⟨pos x hx, prodN_dvd hx⟩
  have sl : ∀ s ∈ ssG d m x0.1.c, s.length = d := fun s hs => by
    rcases ssG_mem hs with ⟨i, _, rfl⟩ | ⟨i, j, _, _, rfl⟩ <;> exact vc_len ..
  have tot0 := stepsG_tot (N := prodN hs) (d := d) (ssG d m x0.1.c) (hs.map toG) sl hL (fun x hx => by rw [← tint_G]; exact h0 x hx)
  have tot0 : ∀ t : Int, totG ((hs.map toG).map (stepsG (prodN hs) (ssG d m x0.1.c))) (scl t v) = 0 := fun t => tot0 _ (by unfold scl; rw [List.length_map]; exact vl)
  have del : ∀ y : Nat × Nat, ∃ δ : Int, y ∈ pw → lowX y (x0.1.r + δ * ((mOf pw / y.1 : Nat) : Int)) = false := fun y => by
    by_cases c : y ∈ pw
    · obtain ⟨δ, h⟩ := nonlow_ex hN c
      exact ⟨δ, fun _ => h⟩
    · exact ⟨0, fun z => absurd z c⟩
  obtain ⟨D, hD⟩ : ∃ D : Nat × Nat → Int, ∀ y ∈ pw, lowX y (x0.1.r + D y * ((mOf pw / y.1 : Nat) : Int)) = false := ⟨fun y => Classical.choose (del y), fun y hy => Classical.choose_spec (del y) hy⟩
  obtain ⟨sh, hsh⟩ : ∃ sh : List (Nat × Nat) → List Int, sh = fun l => l.map fun y => D y * ((mOf pw / y.1 : Nat) : Int) := ⟨_, rfl⟩
  have A := alt_tot v (sh pw) x0.1.r ((hs.map toG).map (stepsG (prodN hs) (ssG d m x0.1.c)))
  rw [alt_zero tot0, List.map_map, List.map_map] at A
  have nd2 : hs.Nodup := by
    refine List.Pairwise.imp_of_mem (R := fun a b => a.1 ≠ b.1) (fun _ _ h e => h (by rw [e])) ?_
    exact List.pairwise_map.mp nd
  have top : ∀ x ∈ hs, (stepsG (prodN hs) (ssG d m x0.1.c) (toG x)).n = m → x.1.m = m ∧ x.1.c = x0.1.c := fun x hx hT => by
    obtain ⟨pv, hV, _⟩ := hp x hx
    obtain ⟨_, _, b3, b4⟩ := stepsG_b (prodN hs) (ssG d m x0.1.c) (toG x)
    rw [hT] at b3 b4
    have b3 : m ∣ x.1.m := b3
    have le : x.1.m ≤ m := by rw [hm]; exact hmax x hx
    have em : x.1.m = m := Nat.le_antisymm le (Nat.le_of_dvd (pos x hx) b3)
    refine ⟨em, ?_⟩
    have epw : pv = pw := pw_uniq hV.ok.per.ok hw (by rw [hV.m, em, emw])
    subst epw
    have fr1 : Free pv x.1.c := fun y hy => hV.ok.free hy
    have fr2 : Free pv x0.1.c := fun y hy => hN.ok.free hy
    have X : Cross (mOf pv) (x.1.c ++ [0]) (x0.1.c ++ [0]) := by
      intro i j a b a' b' ha hb ha' hb'
      rw [emw]
      have gd : ∀ (l : List Int) (i : Nat) (a : Int), l.length = d → (l ++ [0])[i]? = some a → a = l.getD i 0 ∧ (¬ i < d → a = 0) := fun l i a hl h => by
        by_cases c : i < d
        · rw [List.getElem?_append_left (by omega)] at h
          exact ⟨by rw [List.getD, h]; rfl, fun z => absurd c z⟩
        · rw [List.getElem?_append_right (by omega)] at h
          have := List.mem_singleton.mp (List.mem_of_getElem? h)
          refine ⟨?_, fun _ => this⟩
          rw [List.getD, List.getElem?_eq_none (by omega), this]
          rfl
      obtain ⟨ea, za⟩ := gd _ _ _ hV.len ha
      obtain ⟨eb, zb⟩ := gd _ _ _ hV.len hb
      obtain ⟨ea', za'⟩ := gd _ _ _ hN.len ha'
      obtain ⟨eb', zb'⟩ := gd _ _ _ hN.len hb'
      by_cases ci : i < d
      · by_cases cj : j < d
        · have k := b4 _ (ssG_two (m := m) (c := x0.1.c) ci cj)
          have k : (m : Int) ∣ dotI x.1.c (vc d i j (x0.1.c.getD j 0) (x0.1.c.getD i 0)) := k
          rw [vc_dot hV.len ci cj, ← ea, ← eb, ← ea', ← eb'] at k
          exact k
        · rw [zb cj, zb' cj, Int.mul_zero, Int.zero_mul]
          exact Int.dvd_zero _
      · rw [za ci, za' ci, Int.mul_zero, Int.zero_mul]
        exact Int.dvd_zero _
    have e := ((nf_iff hw (hV.len.trans hN.len.symm) fr1 fr2).mpr X).1
    rw [(nf_self hw fr1 hV.ok.c0 hV.u).1, (nf_self hw fr2 hN.ok.c0 hN.u).1] at e
    exact e
  have dm : ∀ x ∈ hs, (stepsG (prodN hs) (ssG d m x0.1.c) (toG x)).n ∣ m := fun x hx => by
    obtain ⟨pv, hV, _⟩ := hp x hx
    obtain ⟨u, ul, hu⟩ := sol_ex hV
    obtain ⟨_, _, b3, b4⟩ := stepsG_b (prodN hs) (ssG d m x0.1.c) (toG x)
    have b3 : (stepsG (prodN hs) (ssG d m x0.1.c) (toG x)).n ∣ x.1.m := b3
    generalize (stepsG (prodN hs) (ssG d m x0.1.c) (toG x)).n = T at b3 b4
    have h1 : (T : Int) ∣ (m : Int) * dotI x.1.c u := dvd_dot _ _ fun c hc => by
      obtain ⟨i, hi, e⟩ := List.mem_iff_getElem.mp hc
      have id : i < d := by rw [← hV.len]; exact hi
      have k : (T : Int) ∣ dotI x.1.c (vc d i i (m : Int) 0) := b4 _ (ssG_one id)
      rw [vc_dot hV.len id id, Int.mul_zero, Int.sub_zero, List.getD, List.getElem?_eq_getElem hi, e] at k
      rw [Int.mul_comm]
      exact k
    have h2 := Int.dvd_trans (Int.natCast_dvd_natCast.mpr b3) hu
    have h3 := Int.dvd_sub h1 (Int.dvd_mul_of_dvd_right h2 (b := (m : Int)))
    rw [show (m : Int) * dotI x.1.c u - (m : Int) * (dotI x.1.c u - 1) = (m : Int) by grind] at h3
    exact Int.natCast_dvd_natCast.mp h3
  have shq : ∀ (l : List (Nat × Nat)) (y : Nat × Nat), y ∈ pw → (∀ z ∈ l, z ∈ pw ∧ z.1 ≠ y.1) → ∀ s ∈ sh l, ((qOf y : Nat) : Int) ∣ s := fun l y hy hl s hs => by
    rw [hsh] at hs
    obtain ⟨z, hz, rfl⟩ := List.mem_map.mp hs
    exact Int.dvd_mul_of_dvd_right (Int.natCast_dvd_natCast.mpr (q_dvd_cof hw (hl z hz).1 hy (hl z hz).2.symm))
  have val : ∀ x ∈ hs, ∀ t, valG (stepsG (prodN hs) (ssG d m x0.1.c) (toG x)) (scl t v) = (stepsG (prodN hs) (ssG d m x0.1.c) (toG x)).w * ind (stepsG (prodN hs) (ssG d m x0.1.c) (toG x)).n (t * dotI x.1.c v - x.1.r) := fun x hx t => by
    obtain ⟨b1, b2, _, _⟩ := stepsG_b (prodN hs) (ssG d m x0.1.c) (toG x)
    unfold valG
    rw [b1, b2]
    show _ * ind _ (dotI x.1.c (scl t v) - x.1.r) = _
    rw [dot_scl]
  have w0 : (stepsG (prodN hs) (ssG d m x0.1.c) (toG x0)).n = m ∧ (stepsG (prodN hs) (ssG d m x0.1.c) (toG x0)).w = x0.2 * ((prodN hs ^ (ssG d m x0.1.c).length : Nat) : Int) := by
    have := stepsG_top N1 (ssG d m x0.1.c) (toG x0) (pos x0 hx0) (prodN_dvd hx0) (fun s hs => by
      show (x0.1.m : Int) ∣ dotI x0.1.c s
      rw [← hm]
      rcases ssG_mem hs with ⟨i, hi, rfl⟩ | ⟨i, j, hi, hj, rfl⟩
      · rw [vc_dot hN.len hi hi, Int.mul_zero, Int.sub_zero]
        exact Int.dvd_mul_left _ _
      · rw [vc_dot hN.len hi hj, Int.mul_comm, Int.sub_self]
        exact Int.dvd_zero _)
    exact ⟨this.1.trans hm.symm, this.2⟩
  rw [one_sum nd2 hx0 (fun x hx ne => ?_)] at A
  · -- the place itself
    have f0 : ∀ t, valG (stepsG (prodN hs) (ssG d m x0.1.c) (toG x0)) (scl t v) = (stepsG (prodN hs) (ssG d m x0.1.c) (toG x0)).w * ind m (t - x0.1.r) := fun t => by
      rw [val x0 hx0 t, w0.1]
      congr 1
      refine ind_shift ?_
      obtain ⟨z, hz⟩ := hv
      exact ⟨t * z, by grind⟩
    have key : ∀ (l : List (Nat × Nat)), (∀ y ∈ l, y ∈ pw) → (l.map (·.1)).Nodup → alt (sh l) (fun t => valG (stepsG (prodN hs) (ssG d m x0.1.c) (toG x0)) (scl t v)) x0.1.r = (stepsG (prodN hs) (ssG d m x0.1.c) (toG x0)).w := by
      intro l
      induction l with
      | nil =>
        intro _ _
        have : sh [] = [] := by rw [hsh]; rfl
        rw [this]
        show valG _ (scl x0.1.r v) = _
        rw [f0, Int.sub_self]
        unfold ind
        rw [if_pos (Int.dvd_zero _), Int.mul_one]
      | cons y r ih =>
        intro hl hnd
        have hy := hl y List.mem_cons_self
        rw [List.map_cons, List.nodup_cons] at hnd
        have e : sh (y :: r) = D y * ((mOf pw / y.1 : Nat) : Int) :: sh r := by rw [hsh]; rfl
        rw [e]
        show alt (sh r) _ x0.1.r - alt (sh r) _ (x0.1.r + D y * ((mOf pw / y.1 : Nat) : Int)) = _
        rw [ih (fun z hz => hl z (List.mem_cons_of_mem _ hz)) hnd.2, alt_off (q := ((qOf y : Nat) : Int)) (bad := fun t => lowX y t = false) (fun t ht => ?_) (fun t s hs ht => ?_) (sh r) (shq r y hy fun z hz => ⟨hl z (List.mem_cons_of_mem _ hz), fun e => hnd.1 (e ▸ List.mem_map_of_mem hz)⟩) _ (hD y hy), Int.sub_zero]
        · rw [f0]
          unfold ind
          rw [if_neg, Int.mul_zero]
          intro d1
          rw [← emw] at d1
          have d2 := q_dvd hw hy d1
          rw [low_cong d2, hlow y hy] at ht
          cases ht
        · have e2 : lowX y (t + s) = lowX y t := low_cong (by rw [show t + s - t = s by omega]; exact hs)
          show lowX y (t + s) = false
          rw [e2]
          exact ht
    have A2 := A.symm
    have A3 : alt (sh pw) (fun t => valG (stepsG (prodN hs) (ssG d m x0.1.c) (toG x0)) (scl t v)) x0.1.r = 0 := A2
    rw [key pw (fun _ h => h) hw.nodup, w0.2] at A3
    rcases Int.mul_eq_zero.mp A3 with z | z
    · exact nz x0 hx0 z
    · have : 1 ≤ prodN hs ^ (ssG d m x0.1.c).length := Nat.pow_pos N1
      omega
  · show alt (sh pw) (fun t => valG (stepsG (prodN hs) (ssG d m x0.1.c) (toG x)) (scl t v)) x0.1.r = 0
    by_cases hT : (stepsG (prodN hs) (ssG d m x0.1.c) (toG x)).n = m
    · obtain ⟨e1, e2⟩ := top x hx hT
      have nr : x.1.r ≠ x0.1.r := fun e => ne (by
        have k : x.1 = x0.1 := by
          have h1 : x.1 = ⟨x.1.m, x.1.c, x.1.r⟩ := rfl
          rw [h1, e1, e2, e, hm]
        have i1 := getH_at nd hx
        have i2 := getH_at nd hx0
        rw [k, i2] at i1
        exact Prod.ext k (Option.some.inj i1).symm)
      obtain ⟨pv, hV, hlowx⟩ := hp x hx
      have epw : pv = pw := pw_uniq hV.ok.per.ok hw (by rw [hV.m, e1, emw])
      subst epw
      have f1 : ∀ t, valG (stepsG (prodN hs) (ssG d m x0.1.c) (toG x)) (scl t v) = (stepsG (prodN hs) (ssG d m x0.1.c) (toG x)).w * ind m (t - x.1.r) := fun t => by
        rw [val x hx t, hT, e2]
        congr 1
        refine ind_shift ?_
        obtain ⟨z, hz⟩ := hv
        exact ⟨t * z, by grind⟩
      have key : ∀ (l : List (Nat × Nat)), (∀ y ∈ l, y ∈ pv) → (l.map (·.1)).Nodup → alt (sh l) (fun t => valG (stepsG (prodN hs) (ssG d m x0.1.c) (toG x)) (scl t v)) x0.1.r = 0 := by
        intro l
        induction l with
        | nil =>
          intro _ _
          have : sh [] = [] := by rw [hsh]; rfl
          rw [this]
          show valG _ (scl x0.1.r v) = _
          rw [f1]
          unfold ind
          rw [if_neg, Int.mul_zero]
          intro d1
          have r1 := hV.ok.r0
          have r2 := hN.ok.r0
          rw [emw] at r1 r2
          obtain ⟨k, hk⟩ := d1
          have k0 : k = 0 := by
            refine Classical.byContradiction fun c => ?_
            rcases Int.lt_or_gt_of_ne c with c | c
            · have := Int.mul_le_mul_of_nonneg_left (show k ≤ -1 by omega) (show (0 : Int) ≤ (m : Int) by omega)
              omega
            · have := Int.mul_le_mul_of_nonneg_left (show (1 : Int) ≤ k by omega) (show (0 : Int) ≤ (m : Int) by omega)
              omega
          rw [k0, Int.mul_zero] at hk
          exact nr (by omega)
        | cons y r ih =>
          intro hl hnd
          have hy := hl y List.mem_cons_self
          rw [List.map_cons, List.nodup_cons] at hnd
          have e : sh (y :: r) = D y * ((mOf pv / y.1 : Nat) : Int) :: sh r := by rw [hsh]; rfl
          rw [e]
          show alt (sh r) _ x0.1.r - alt (sh r) _ (x0.1.r + D y * ((mOf pv / y.1 : Nat) : Int)) = _
          rw [ih (fun z hz => hl z (List.mem_cons_of_mem _ hz)) hnd.2, alt_off (q := ((qOf y : Nat) : Int)) (bad := fun t => lowX y t = false) (fun t ht => ?_) (fun t s hs ht => ?_) (sh r) (shq r y hy fun z hz => ⟨hl z (List.mem_cons_of_mem _ hz), fun e => hnd.1 (e ▸ List.mem_map_of_mem hz)⟩) _ (hD y hy)]
          · rfl
          · rw [f1]
            unfold ind
            rw [if_neg, Int.mul_zero]
            intro d1
            rw [← emw] at d1
            have d2 := q_dvd hw hy d1
            rw [low_cong d2, hlowx y hy] at ht
            cases ht
          · have e2 : lowX y (t + s) = lowX y t := low_cong (by rw [show t + s - t = s by omega]; exact hs)
            show lowX y (t + s) = false
            rw [e2]
            exact ht
      exact key pv (fun _ h => h) hw.nodup
    · obtain ⟨y, hy, hd⟩ := proper_dvd hw (by rw [emw]; exact dm x hx) (by rw [emw]; exact hT)
      refine alt_none _ ⟨D y * ((mOf pw / y.1 : Nat) : Int), by rw [hsh]; exact List.mem_map_of_mem hy, fun t => ?_⟩ _
      rw [val x hx, val x hx]
      congr 1
      refine ind_shift ?_
      rw [show (t + D y * ((mOf pw / y.1 : Nat) : Int)) * dotI x.1.c v - x.1.r - (t * dotI x.1.c v - x.1.r) = D y * ((mOf pw / y.1 : Nat) : Int) * dotI x.1.c v by grind]
      exact Int.dvd_mul_of_dvd_left (Int.dvd_mul_of_dvd_right (Int.natCast_dvd_natCast.mpr hd))
end KL
/-! plain heaps and looks: mathematics -/
namespace KL
open PySem PySem.Spec PyProof.Rows L2 RZ StX SrtO Kw KM PV
/-- 1 where a cell lies on a stripe -/
def valS (s : Sr) (ys : List Int) : Int := ind s.m (dotI s.c ys - s.r)
/-- a sum over pairs -/
def linF (g : Sr → Int) : List (Sr × Int) → Int
  | [] => 0
  | x :: r => x.2 * g x.1 + linF g r
theorem tint_lin (ys : List Int) : ∀ hs : Hs, tintOf hs ys = linF (fun s => valS s ys) hs
  | [] => rfl
  | x :: r => by
    rw [tint_G, List.map_cons, totG_cons, ← tint_G, tint_lin ys r]
    rfl
theorem linF_append (g : Sr → Int) : ∀ a b : List (Sr × Int), linF g (a ++ b) = linF g a + linF g b
  | [], b => by rw [List.nil_append]; exact (Int.zero_add _).symm
  | x :: a, b => by
    show x.2 * g x.1 + linF g (a ++ b) = x.2 * g x.1 + linF g a + linF g b
    rw [linF_append g a b]
    omega
theorem linF_mul (g : Sr → Int) (k : Int) : ∀ a : List (Sr × Int), linF g (a.map fun z => (z.1, k * z.2)) = k * linF g a
  | [] => (Int.mul_zero k).symm
  | x :: a => by
    show k * x.2 * g x.1 + linF g (a.map _) = k * (x.2 * g x.1 + linF g a)
    rw [linF_mul g k a, Int.mul_add, Int.mul_assoc]
theorem linF_perm (g : Sr → Int) {a b : List (Sr × Int)} (h : a.Perm b) : linF g a = linF g b := by
  induction h with
  | nil => rfl
  | cons x _ ih => show x.2 * g x.1 + _ = x.2 * g x.1 + _; rw [ih]
  | swap x y l => show y.2 * g y.1 + (x.2 * g x.1 + _) = x.2 * g x.1 + (y.2 * g y.1 + _); omega
  | trans _ _ h1 h2 => exact h1.trans h2
theorem linF_put (g : Sr → Int) {t : Hs} (nd : (t.map (·.1)).Nodup) (s : Sr) (v : Int) : linF g (putH t s v) = linF g t + (v - (getH t s).getD 0) * g s := by
  cases e : getH t s with
  | none =>
    rw [putH_new e, linF_append, Option.getD_none, Int.sub_zero]
    show _ + (v * g s + 0) = _
    omega
  | some u =>
    rw [putH_old e, Option.getD_some]
    induction t with
    | nil => cases e
    | cons x r ih =>
      rw [List.map_cons, List.nodup_cons] at nd
      rw [getH_cons] at e
      rw [List.map_cons]
      by_cases c : x.1 = s
      · rw [if_pos c] at e
        have eu : x.2 = u := Option.some.inj e
        have same : (r.map fun x => if x.1 = s then (x.1, v) else x) = r := by
          have : ∀ y ∈ r, (fun x : Sr × Int => if x.1 = s then (x.1, v) else x) y = y := fun y hy => if_neg fun z => nd.1 (by rw [c, ← z]; exact List.mem_map_of_mem hy)
          exact (List.map_congr_left this).trans (List.map_id' r)
        rw [same, if_pos c]
        show v * g x.1 + linF g r = x.2 * g x.1 + linF g r + (v - u) * g s
        rw [c, eu]
        grind
      · rw [if_neg c] at e
        rw [if_neg c]
        show x.2 * g x.1 + linF g (r.map _) = x.2 * g x.1 + linF g r + _
        rw [ih nd.2 e]
        omega
theorem linF_gatT (g : Sr → Int) : ∀ (l : List (Sr × Int)) (t : Hs), (t.map (·.1)).Nodup → linF g (gatT t l) = linF g t + linF g l
  | [], t, _ => by show _ = _ + 0; rw [Int.add_zero]; rfl
  | x :: r, t, nd => by
    show linF g (gatT (putH t x.1 ((getH t x.1).getD 0 + x.2)) r) = linF g t + (x.2 * g x.1 + linF g r)
    rw [linF_gatT g r _ (putH_nodup nd _ _), linF_put g nd]
    rw [show (getH t x.1).getD 0 + x.2 - (getH t x.1).getD 0 = x.2 by omega]
    omega
theorem linF_nz (g : Sr → Int) : ∀ t : Hs, linF g (nzH t) = linF g t
  | [] => rfl
  | x :: r => by
    have ih := linF_nz g r
    unfold nzH at ih ⊢
    rw [List.filter_cons]
    by_cases c : x.2 = 0
    · rw [if_neg (by simp [c]), ih]
      show _ = x.2 * g x.1 + _
      rw [c]
      omega
    · rw [if_pos (by simp [c])]
      show x.2 * g x.1 + linF g (r.filter _) = x.2 * g x.1 + _
      rw [ih]
theorem linF_gatS (g : Sr → Int) (l : List (Sr × Int)) : linF g (gatS l) = linF g l := by
  unfold gatS
  rw [linF_perm g (sortHs_perm _), linF_nz, linF_gatT g l [] List.nodup_nil]
  exact Int.zero_add _
theorem gatS_tint (l : List (Sr × Int)) (ys : List Int) : tintOf (gatS l) ys = tintOf l ys := by rw [tint_lin, tint_lin, linF_gatS]
/-! ### taken apart, the tints stay -/
theorem ind_parts {p m : Nat} (hp : 1 ≤ p) (hm : 1 ≤ m) (A : Int) : sumR p (fun e => ind (m * p) (A - (e : Int) * (m : Int))) = ind m A := by
  by_cases c : (m : Int) ∣ A
  · obtain ⟨a, rfl⟩ := c
    have h1 := ind_unit hp (b := -1) (by show Nat.gcd p 1 = 1; exact Nat.gcd_one_right p) 1 a
    rw [Nat.one_mul] at h1
    have h2 : ind m ((m : Int) * a) = 1 := by unfold ind; rw [if_pos (Int.dvd_mul_right _ _)]
    rw [h2]
    refine Eq.trans (sumR_congr fun e _ => ind_congr2 ?_) h1
    rw [show (m : Int) * a - (e : Int) * (m : Int) = (m : Int) * (a + (e : Int) * -1) by grind, Int.natCast_mul]
    exact Int.mul_dvd_mul_iff_left (by omega)
  · have h2 : ind m A = 0 := by unfold ind; rw [if_neg c]
    rw [h2]
    refine sumR_none fun e _ => ?_
    unfold ind
    rw [if_neg fun d => c ?_]
    have d2 : (m : Int) ∣ A - (e : Int) * (m : Int) := Int.dvd_trans (by rw [Int.natCast_mul]; exact Int.dvd_mul_right _ _) d
    have := Int.dvd_add d2 (Int.dvd_mul_left (e : Int) (m : Int))
    rwa [Int.sub_add_cancel] at this
theorem val_mod {q : Nat} (hq : 1 ≤ q) (cs ys : List Int) (r : Int) : ind q (dotI (cs.map fun c => c % (q : Int)) ys - r % (q : Int)) = ind q (dotI cs ys - r) := by
  refine ind_shift ?_
  have h1 := dot_mod (q : Int) cs ys
  have h2 := sub_of_emod h1
  have h3 : (q : Int) ∣ r % (q : Int) - r := by
    rw [Int.emod_def]
    exact ⟨-(r / (q : Int)), by rw [Int.mul_neg]; omega⟩
  have := Int.dvd_sub h2 h3
  rwa [show dotI (cs.map fun c => c % (q : Int)) ys - dotI cs ys - (r % (q : Int) - r) = dotI (cs.map fun c => c % (q : Int)) ys - r % (q : Int) - (dotI cs ys - r) by omega] at this
theorem linF_ones (g : Sr → Int) (k : Int) : ∀ l : List Sr, linF g (l.map fun t => (t, k)) = k * (l.map g).sum
  | [] => (Int.mul_zero k).symm
  | t :: l => by
    show k * g t + linF g (l.map _) = _
    rw [linF_ones g k l, List.map_cons, List.sum_cons, Int.mul_add]
theorem val_div {d p : Nat} {pw : List (Nat × Nat)} {s : Sr} (h : Nf d pw s) (hp : p ∈ pw.map (·.1)) (ys : List Int) : valS (divS p s) ys = valS s ys + ((sis p s).map fun t => valS t ys).sum := by
  have hw := h.ok.per.ok
  obtain ⟨x, hx, rfl⟩ := List.mem_map.mp hp
  have p2 := PN_lt _ (hw.mem hx)
  have em := h.m
  have dv : x.1 ∣ s.m := by
    rw [← em]
    exact (dvd_mOf (hw.mem hx) hw).mpr (List.mem_map_of_mem hx)
  obtain ⟨m, hm⟩ := dv
  have s1 : 1 ≤ s.m := by rw [← em]; exact mOf_pos hw
  have m1 : 1 ≤ m := by
    rcases Nat.eq_zero_or_pos m with z | z
    · rw [z, Nat.mul_zero] at hm; omega
    · exact z
  have e1 : s.m / x.1 = m := by rw [hm]; exact Nat.mul_div_cancel_left _ (by omega)
  have e2 : (s.m : Int) / (x.1 : Int) = (m : Int) := by rw [nat_div, e1]
  have hd : valS (divS x.1 s) ys = ind m (dotI s.c ys - s.r) := by
    unfold valS divS
    dsimp only
    rw [e1, val_mod m1]
  rw [hd, ← ind_parts (p := x.1) (by omega) m1]
  have hp1 : x.1 = x.1 - 1 + 1 := by omega
  have split : ∀ (n : Nat) (f : Nat → Int), sumR (n + 1) f = f 0 + sumR n fun j => f (j + 1) := by
    intro n f
    rw [Nat.add_comm, sumR_add]
    congr 1
    · show (List.map f [0]).sum = _
      simp
    · exact sumR_congr fun j _ => by rw [Nat.add_comm]
  have sum : ((sis x.1 s).map fun t => valS t ys).sum = sumR (x.1 - 1) (fun j => ind (m * x.1) (dotI s.c ys - s.r - ((j + 1 : Nat) : Int) * (m : Int))) := by
    unfold sis sumR
    rw [List.map_map]
    refine congrArg List.sum (List.map_congr_left fun e _ => ?_)
    show ind s.m (dotI s.c ys - (s.r + ((e : Int) + 1) * ((s.m : Int) / (x.1 : Int))) % (s.m : Int)) = _
    rw [e2, show m * x.1 = s.m by rw [hm, Nat.mul_comm]]
    refine ind_shift ?_
    rw [Int.emod_def]
    exact ⟨(s.r + ((e : Int) + 1) * (m : Int)) / (s.m : Int), by rw [Int.natCast_add]; grind⟩
  rw [sum]
  have e3 := split (x.1 - 1) (fun e => ind (m * x.1) (dotI s.c ys - s.r - (e : Int) * (m : Int)))
  rw [← hp1] at e3
  rw [e3]
  congr 1
  show ind (m * x.1) _ = ind s.m _
  rw [show m * x.1 = s.m by rw [hm, Nat.mul_comm]]
  refine ind_shift ?_
  rw [show dotI s.c ys - s.r - ((0 : Nat) : Int) * (m : Int) - (dotI s.c ys - s.r) = 0 by
    rw [show ((0 : Nat) : Int) = 0 from rfl, Int.zero_mul]
    omega]
  exact Int.dvd_zero _
theorem apt_val {d p : Nat} (ys : List Int) : ∀ (k : Nat) (pw : List (Nat × Nat)) (s : Sr), Nf d pw s → exP p pw = k → linF (fun t => valS t ys) (apt p k s) = valS s ys
  | 0, pw, s, _, _ => by
    show 1 * valS s ys + 0 = _
    omega
  | k + 1, pw, s, h, e => by
    unfold apt
    split
    · show 1 * valS s ys + 0 = _
      omega
    · have hp : p ∈ pw.map (·.1) := Classical.byContradiction fun z => by rw [exP_none z] at e; omega
      have hd := h.div hp
      rw [linF_append, linF_ones, apt_val ys k (decP p pw) (divS p s) hd (decP_ex h.ok.per.ok e), val_div h hp]
      omega
theorem plS_val {d : Nat} {E : List (Nat × Nat)} (hE : Pw E) (ys : List Int) : ∀ (rest done more : List (Nat × Nat)) (L : List (Sr × Int)), done ++ rest ++ more = E → (∀ y ∈ L, Pc d (fun q => q ∈ done.map (·.1)) E y.1 ∧ (y.2 = 1 ∨ y.2 = -1)) →
    linF (fun t => valS t ys) (plS rest L) = linF (fun t => valS t ys) L
  | [], done, more, L, e, h => rfl
  | x :: rest, done, more, L, e, h => by
    have hxE : x ∈ E := by rw [← e]; exact List.mem_append_left _ (List.mem_append_right _ List.mem_cons_self)
    have nd : x.1 ∉ done.map (·.1) := by
      have n := hE.nodup
      rw [← e, List.append_assoc, List.map_append] at n
      have := (List.nodup_append.mp n).2.2
      intro z
      exact this _ z _ List.mem_cons_self rfl
    show linF _ (plS rest (L.flatMap fun y => (apt x.1 x.2 y.1).map fun z => (z.1, y.2 * z.2))) = _
    rw [plS_val (d := d) hE ys rest (done ++ [x]) more _ (by rw [List.append_assoc done [x] rest]; exact e) (fun z hz => ?_)]
    · have one : ∀ M : List (Sr × Int), (∀ y ∈ M, y ∈ L) → linF (fun t => valS t ys) (M.flatMap fun y => (apt x.1 x.2 y.1).map fun z => (z.1, y.2 * z.2)) = linF (fun t => valS t ys) M := by
        intro M
        induction M with
        | nil => intro _; rfl
        | cons y M ih =>
          intro hM
          obtain ⟨⟨pv, h1, h2, h3, h4⟩, _⟩ := h y (hM y List.mem_cons_self)
          have xp := h3 x hxE nd
          rw [List.flatMap_cons, linF_append, linF_mul, apt_val ys x.2 pv y.1 h1 (exP_mem h1.ok.per.ok xp), ih fun z hz => hM z (List.mem_cons_of_mem _ hz)]
          rfl
      exact one L fun _ h => h
    · have := plS_ok (d := d) hE [x] done (rest ++ more) L (by rw [← e]; simp) h z hz
      exact this
theorem nfS_val {d : Nat} {s : Sr} (h : SrOk d s) (ys : List Int) : valS (nfS s) ys = valS s ys := by
  obtain ⟨n, ok, em⟩ := h.nf
  have k := nf_cells ok.per.ok (fun x hx => ok.free hx) s.r ys
  unfold valS nfS
  rw [em] at k
  exact ind_congr k
theorem plA_val {d : Nat} {s : Sr} (h : SrOk d s) (ys : List Int) : linF (fun t => valS t ys) (plA s) = valS s ys := by
  obtain ⟨n, ok, em⟩ := h.nf
  unfold plA
  rw [plS_val (d := d) ok.per.ok ys (pwS s.m) [] [] [(nfS s, 1)] (by rw [List.append_nil]; rfl) (fun z hz => by
    rw [List.mem_singleton.mp hz]
    exact ⟨⟨_, n, fun x _ hx => absurd hx List.not_mem_nil, fun x hx _ => hx, fun x hx => ⟨x, hx, rfl⟩⟩, .inl rfl⟩)]
  show 1 * valS (nfS s) ys + 0 = _
  rw [nfS_val h ys]
  omega
theorem plL_tint {d : Nat} {hs : Hs} (h : ∀ x ∈ hs, SrOk d x.1) (ys : List Int) : tintOf (plL hs) ys = tintOf hs ys := by
  rw [tint_lin, tint_lin]
  induction hs with
  | nil => rfl
  | cons x r ih =>
    unfold plL at ih ⊢
    rw [List.flatMap_cons, linF_append, ih fun y hy => h y (List.mem_cons_of_mem _ hy)]
    have e : ((plA x.1).map fun y => (y.1, y.2 * x.2)) = (plA x.1).map fun y => (y.1, x.2 * y.2) := List.map_congr_left fun y _ => by rw [Int.mul_comm]
    rw [e, linF_mul, plA_val (h x List.mem_cons_self)]
    rfl
theorem plain_tint {d : Nat} {hs : Hs} (h : ∀ x ∈ hs, SrOk d x.1) (ys : List Int) : tintOf (gatS (plL hs)) ys = tintOf hs ys := by rw [gatS_tint, plL_tint h]
/-! ### just one -/
theorem isPl_ex {d : Nat} {s : Sr} (h : SrOk d s) (hp : isPl s = true) : ∃ pw, Nf d pw s ∧ ∀ y ∈ pw, lowX y s.r = true := by
  obtain ⟨n, ok, em⟩ := h.nf
  obtain ⟨e, l⟩ := isPl_nf hp
  rw [e] at n
  exact ⟨_, n, l⟩
theorem sumT_neg (l : List (Sr × Int)) (s : Sr) : sumT (l.map fun x => (x.1, -x.2)) s = -sumT l s := by
  induction l with
  | nil => rfl
  | cons x r ih =>
    rw [List.map_cons, sumT_cons, sumT_cons, ih]
    dsimp only
    split <;> omega
theorem linF_neg (g : Sr → Int) : ∀ l : List (Sr × Int), linF g (l.map fun x => (x.1, -x.2)) = -linF g l
  | [] => rfl
  | x :: r => by
    show -x.2 * g x.1 + linF g (r.map _) = -(x.2 * g x.1 + linF g r)
    rw [linF_neg g r]
    grind
theorem plain_uniq {d : Nat} {P Q : Hs} (hP : HsOk d P) (pP : ∀ x ∈ P, isPl x.1 = true) (hQ : HsOk d Q) (pQ : ∀ x ∈ Q, isPl x.1 = true) (h : ∀ ys : List Int, ys.length = d → tintOf P ys = tintOf Q ys) : P = Q := by
  have hz : gatS (P ++ Q.map fun x => (x.1, -x.2)) = [] := by
    refine plain_zero (d := d) (fun x hx => ?_) (asc_nodup (gatS_asc _)) (fun x hx => (mem_gatS.mp hx).1) (fun ys hy => ?_)
    · obtain ⟨y, hy, e⟩ := gatS_from hx
      rw [← e]
      rcases List.mem_append.mp hy with hy | hy
      · exact isPl_ex (hP.sr y hy) (pP y hy)
      · obtain ⟨z, hz, rfl⟩ := List.mem_map.mp hy
        exact isPl_ex (hQ.sr z hz) (pQ z hz)
    · rw [gatS_tint, tint_lin, linF_append, linF_neg, ← tint_lin, ← tint_lin, h ys hy]
      omega
  rw [← gatS_self hP, ← gatS_self hQ]
  refine gatS_congr fun s => Classical.byContradiction fun c => ?_
  have m : (s, sumT P s - sumT Q s) ∈ gatS (P ++ Q.map fun x => (x.1, -x.2)) := by
    refine mem_gatS.mpr ⟨?_, ?_⟩
    · show sumT P s - sumT Q s ≠ 0
      omega
    · rw [sumT_append, sumT_neg]
      rfl
  rw [hz] at m
  cases m
/-- a plain heap is that of every heap that looks like it -/
theorem plain_look {d : Nat} {P hs : Hs} (hP : HsOk d P) (pP : ∀ x ∈ P, isPl x.1 = true) (h : ∀ x ∈ hs, SrOk d x.1) (e : ∀ ys : List Int, ys.length = d → tintOf hs ys = tintOf P ys) : gatS (plL hs) = P := by
  obtain ⟨ok, pl⟩ := plain_ok h
  exact plain_uniq ok pl hP pP fun ys hy => by rw [plain_tint h, e ys hy]
/-- two heaps look alike exactly if their plain heaps are one -/
theorem look_iff {d : Nat} {a b : Hs} (ha : ∀ x ∈ a, SrOk d x.1) (hb : ∀ x ∈ b, SrOk d x.1) : gatS (plL a) = gatS (plL b) ↔ ∀ ys : List Int, ys.length = d → tintOf a ys = tintOf b ys := by
  constructor
  · intro e ys _
    rw [← plain_tint ha, e, plain_tint hb]
  · intro h
    obtain ⟨ok, pl⟩ := plain_ok hb
    exact plain_look ok pl ha fun ys hy => by rw [h ys hy, plain_tint hb]
end KL
/-! a tuple's truth as a test -/
namespace PV
open PySem PySem.Spec PyProof.Rows L2 RZ StX SrtO Kw KL
variable {X : Cx} {e : Expr} {p : WE} {K : PySem.W.Frag} {w : World}
def oTru (x : PyData) (Q : Bool → Prop) : Prop := match x with
  | .tuple xs => Q (!xs.isEmpty)
  | _ => False
abbrev wTru (p : WE) : WT := fun Γ Q => p Γ fun x => oTru x Q
theorem lt_tru {t : TE} (h : LB K w t p) : LT K w (fun σ H Q => t σ H fun x H' => ∃ k, TruV K x H' k ∧ Q k H') (wTru p) := fun C σ H ex Γ e1 e2 R Q' hp Q k =>
  h C σ H ex Γ e1 e2 R _ hp _ fun v d H' R' g hd q => by
    unfold oTru at q
    split at q
    · obtain ⟨a1, xs, rfl, h1, h2⟩ := hd.tup
      subst e1
      refine ⟨_, .inr (.inl ⟨xs, h1, rfl⟩), ?_⟩
      have le := dpa_len h2
      rename_i ds
      have e : xs.isEmpty = ds.isEmpty := by
        cases xs with
        | nil => cases ds with
          | nil => rfl
          | cons _ _ => cases le
        | cons _ _ => cases ds with
          | nil => cases le
          | cons _ _ => rfl
      rw [e]
      exact k _ H' R' g q
    · exact q.elim
theorem qt_tru (h : QB X e p) (he : ∀ whole, isTrue e X.env whole = (do let v ← whole; standAt e.pos; holding [v] (truthy v)) := by intro _; rfl) : QT X e (wTru p) := let ⟨_, h1, h2⟩ := h.ex; ⟨_, pt_truth h1 he, lt_tru h2⟩
end PV
/-! defs that give dicts of their own -/
namespace PV
open PySem PySem.Spec PyProof.Rows L2 RZ StX SrtO Kw KL
/-- a dict of the def's own, to be given -/
def Rd1 (C : Ctx) (H : Hp) (ex : List Addr) (a : Addr) (es : List (NK × PyData)) : Prop := ∃ ks, a ∈ ex ∧ a ∉ C.dk ∧ (Mine C a ∨ a ∈ C.M) ∧ H a = some (DicN C.w a ks) ∧ Paired (EntAt C.K (Mask H ex)) ks es
structure SubD (C : Ctx) (E' : WEnds) (E : Ends) : Prop where
  one : ∀ σ' H' ex' Γ' a es, Rel C σ' H' ex' Γ' → Rd1 C H' ex' a es → E'.nx [some (.dct false es)] → E.rt (.ref a) H'
  two : ∀ σ' H' ex' Γ' t a b es fs, Rel C σ' H' ex' Γ' → SqT C.K H' t [.ref a, .ref b] → a ≠ b → Rd1 C H' ex' a es → Rd1 C H' ex' b fs → E'.nx [some (.dct false es), some (.dct false fs)] → E.rt (.ref t) H'
  rt : ∀ σ' H' ex' Γ' v d, Rel C σ' H' ex' Γ' → Dd C.K (Mask H' C.ex0) v d → E'.rt d Γ' → E.rt v H'
  bk : ∀ Γ', E'.bk Γ' → False
  ct : ∀ Γ', E'.ct Γ' → False
def LSD (K : PySem.W.Frag) (w : World) (t : TS) (p : WS) : Prop :=
  ∀ (C : Ctx) (σ : L2.St) (H : Hp) (ex : List Addr) (Γ : VEnv), C.K = K → C.w = w → Rel C σ H ex Γ → ∀ E' : WEnds, p E' Γ → ∀ E : Ends, SubD C E' E → t E σ H
structure QSD (X : Cx) (st : List Stmt) (p : WS) : Prop where
  ex : ∃ t, PSs X st t ∧ LSD X.K X.w t p
section
variable {X : Cx} {st : Stmt} {rest : List Stmt} {ps qs : WS} {a b c e : Expr} {es : List Expr} {pos : Pos} {K : PySem.W.Frag} {w : World} {x y : Str}
theorem qd_cons (h1 : QS X st ps) (h2 : QSD X rest qs) : QSD X (st :: rest) (wSeq ps qs) :=
  let ⟨_, a1, a2⟩ := h1.ex; let ⟨_, b1, b2⟩ := h2.ex; ⟨_, pss_cons a1 b1, fun C σ H ex Γ e1 e2 R E' hp E s => a2 C σ H ex Γ e1 e2 R _ hp _
    ⟨fun σ' H' ex' Γ' R' m q => b2 C σ' H' ex' Γ' e1 e2 R' E' q E s, s.rt, fun _ _ _ _ _ _ q => (s.bk _ q).elim, fun _ _ _ _ _ _ q => (s.ct _ q).elim⟩⟩
theorem Rel.give {C : Ctx} {σ : L2.St} {H : Hp} {ex : List Addr} {Γ : VEnv} (R : Rel C σ H ex Γ) {i : Nat} {es : List (NK × PyData)} (g : Γ[i]? = some (some (.dct false es))) : ∃ a, σ[i]? = some (some (.ref a)) ∧ Rd1 C H ex a es := by
  obtain ⟨v, sv, a, ks, rfl, h2, h3, h4, h5⟩ := R.slot i _ g
  rw [if_neg Bool.false_ne_true] at h4
  exact ⟨a, sv, ks, h2, h3, h4.2, h4.1, h5⟩
abbrev wGive (i : Nat) : WS := fun E Γ => slotU Γ i fun es => E.nx [some (.dct false es)]
theorem qd_ret (i : Nat) {xp : Pos} (hN : X.N[i]? = some x := by rfl) (hv : Vis X.env.scope x := by first | exact Or.inl rfl | exact Or.inr (Or.inl rfl) | exact Or.inr (Or.inr rfl)) (hd : (x == ("__debug__" : Str)) = false := by decide) (hcd : (x == ("__classdict__" : Str)) = false := by decide) :
    QSD X [.Return (some (.Name x xp)) pos] (wGive i) := ⟨_, pss_one (ps_ret (pe_var hN hv hd hcd)), fun C σ H ex Γ e1 e2 R E' hp E s => by
  obtain ⟨es, g, q⟩ := slotU_of hp
  obtain ⟨a, sv, h⟩ := R.give g
  exact ⟨_, sv, s.one σ H ex Γ a es R h q⟩⟩
theorem Rd1.new {C : Ctx} {σ : L2.St} {H : Hp} {ex : List Addr} {Γ : VEnv} (R : Rel C σ H ex Γ) {p a : Addr} {o : HO} {es : List (NK × PyData)} (np : H p = none) (h : Rd1 C H ex a es) : Rd1 C (upd H p o) ex a es := by
  obtain ⟨ks, h1, h2, h3, h4, h5⟩ := h
  have ne : a ≠ p := fun z => by rw [z, np] at h4; cases h4
  exact ⟨ks, h1, h2, h3, by rw [upd_ne ne]; exact h4, paired_mono (fun _ _ => ent_mono (Grow.mask R (.of (same_new np o)))) h5⟩
abbrev wGive2 (i j : Nat) : WS := fun E Γ => slotU Γ i fun es => slotU Γ j fun fs => E.nx [some (.dct false es), some (.dct false fs)]
theorem qd_ret2 (i j : Nat) (hij : i ≠ j) {xp yp tp : Pos} {k : Nat} (hN : X.N[i]? = some x := by rfl) (hN' : X.N[j]? = some y := by rfl)
    (hv : Vis X.env.scope x := by first | exact Or.inl rfl | exact Or.inr (Or.inl rfl) | exact Or.inr (Or.inr rfl)) (hd : (x == ("__debug__" : Str)) = false := by decide) (hcd : (x == ("__classdict__" : Str)) = false := by decide)
    (hv' : Vis X.env.scope y := by first | exact Or.inl rfl | exact Or.inr (Or.inl rfl) | exact Or.inr (Or.inr rfl)) (hd' : (y == ("__debug__" : Str)) = false := by decide) (hcd' : (y == ("__classdict__" : Str)) = false := by decide)
    (hs : starEach [.Name x xp, .Name y yp] X.env = (false, eval (.Name x xp) X.env) :: starEach [.Name y yp] X.env := by rfl) (hs' : starEach [.Name y yp] X.env = (false, eval (.Name y yp) X.env) :: starEach [] X.env := by rfl) :
    QSD X [.Return (some (.Tuple [.Name x xp, .Name y yp] k tp)) pos] (wGive2 i j) := ⟨_, pss_one (ps_ret (pe_tup (pa_cons (pe_var hN hv hd hcd) (pa_cons (pe_var hN' hv' hd' hcd') pa_nil hs') hs))), fun C σ H ex Γ e1 e2 R E' hp E s => by
  obtain ⟨es, g, hp⟩ := slotU_of hp
  obtain ⟨fs, g', q⟩ := slotU_of hp
  obtain ⟨a, sv, h⟩ := R.give g
  obtain ⟨b, sv', h'⟩ := R.give g'
  refine ⟨_, sv, _, sv', by show 2 ≤ sizeLine; decide, fun p np => ?_⟩
  have ne : a ≠ b := fun z => by
    subst z
    exact R.apart i j _ _ a hij g g' rfl trivial sv sv'
  exact s.two σ _ ex Γ p a b es fs (R.new np _) (SqT.of upd_same) ne (h.new R np) (h'.new R np) q⟩
end
/-! ### the def's promise -/
abbrev PSpD := List AV → (VEnv → Prop) → Prop
def spD (K : PySem.W.Frag) (w : World) (F : PSpD) : Sp := fun vs H Q _ => ∃ (C : Ctx) (as : List AV) (Q' : VEnv → Prop), C.K = K ∧ C.w = w ∧ Paired (ArgAt C H C.ex0) vs as ∧ (∀ a ∈ C.ex0, ∃ o, H a = some o ∧ NT o) ∧ C.dok H ∧ F as Q' ∧
  (∀ a ks es H', Q' [some (.dct false es)] → H a = none → H' a = some (DicN w a ks) → Paired (EntAt K (Mask H' (a :: C.ex0))) ks es → Grow C H H' → C.dok H' → (∀ a ∈ C.dk, ∃ o, H' a = some o ∧ NT o) → Q (.ref a) H') ∧
  (∀ t a b ks ls es fs H', Q' [some (.dct false es), some (.dct false fs)] → a ≠ b → H a = none → H b = none → SqT K H' t [.ref a, .ref b] → H' a = some (DicN w a ks) → H' b = some (DicN w b ls) →
    Paired (EntAt K (Mask H' (b :: a :: C.ex0))) ks es → Paired (EntAt K (Mask H' (b :: a :: C.ex0))) ls fs → Grow C H H' → C.dok H' → (∀ a ∈ C.dk, ∃ o, H' a = some o ∧ NT o) → Q (.ref t) H')
section
variable {P : Program} {w : World} {K : PySem.W.Frag} {mg : Str → Option Value} {base : Heap}
theorem fnD {x qual : Str} {st : Stmt} {f : Addr} {fd : FuncData} {N ps : List Str} {k : Nat} {p : WS} (F : Fun K x qual st f fd) (S : FnScope N ps (defScope st)) (sp : PSpD) (len : ∀ as Q, sp as Q → as.length = ps.length)
    (hbody : ∀ (cdv : Value) (A : Around) (outer : List Env) (s : Shared) (H : Hp) (E : XK), Quiet (A.deeper (envOfC qual (defScope st) s.heap.objs.size f cdv)) → Room k (A.deeper (envOfC qual (defScope st) s.heap.objs.size f cdv)) →
      QSD (cxOf CX0 P w K mg base N qual (defScope st) f cdv A outer s H E).nox (defBody st) p)
    (hsp : ∀ as Q, sp as Q → p { nx := Q, rt := fun _ _ => False } (startE N as)) : GFn P w K mg base (k + 1) f fd ps (spD K w sp) := by
  refine gfn_of F S (fun vs H Q E h => ?_) (fun cdv A outer s H vs Q E hq hr h => ?_)
  · obtain ⟨C, as, Q', _, _, h1, _, _, h2, _⟩ := h
    rw [pair_len h1]
    exact len as Q' h2
  · obtain ⟨C, as, Q', e1, e2, h1, h2, h3, h4, k1, k2⟩ := h
    obtain ⟨t, b1, b2⟩ := (hbody cdv A outer s H E hq hr).ex
    have free : ∀ {H' : Hp} {ex' : List Addr} {a : Addr} {es : List (NK × PyData)}, Rd1 (C.call H) H' ex' a es → H a = none := fun h => by
      obtain ⟨ks, _, h2, h3, _⟩ := h
      rcases h3 with h3 | h3
      · exact h3.2
      · exact absurd h3 h2
    refine ⟨t, b1, b2 (C.call H) _ H C.ex0 (startE N as) e1 e2 (start_rel h1 h2 h3) _ (hsp as Q' h4) _ ⟨fun σ' H' ex' Γ' a es R' hg q => ?_, fun σ' H' ex' Γ' t a b es fs R' ht ne hg hg' q => ?_, fun _ _ _ _ _ _ _ _ q => q.elim, fun _ q => q, fun _ q => q⟩⟩
    · have n := free hg
      obtain ⟨ks, g1, g2, g3, g4, g5⟩ := hg
      have sm : Same (Mask H' ex') (Mask H' (a :: C.ex0)) := mask_same fun b o n e => ⟨fun z => (List.mem_cons.mp z).elim (fun z => n (z ▸ g1)) (fun z => n (R'.exs b z)), e⟩
      exact k1 a ks es H' q n (e2 ▸ g4) (e1 ▸ paired_mono (fun _ _ => ent_mono sm) g5) R'.keep R'.deck (fun a ha => R'.all a (R'.exs a (C.dkE a ha)))
    · have n := free hg
      have n' := free hg'
      obtain ⟨ks, g1, g2, g3, g4, g5⟩ := hg
      obtain ⟨ls, f1, f2, f3, f4, f5⟩ := hg'
      have sm : Same (Mask H' ex') (Mask H' (b :: a :: C.ex0)) := mask_same fun c o n e => ⟨fun z => (List.mem_cons.mp z).elim (fun z => n (z ▸ f1)) (fun z => (List.mem_cons.mp z).elim (fun z => n (z ▸ g1)) (fun z => n (R'.exs c z))), e⟩
      exact k2 t a b ks ls es fs H' q ne n n' (e1 ▸ ht) (e2 ▸ g4) (e2 ▸ f4) (e1 ▸ paired_mono (fun _ _ => ent_mono sm) g5) (e1 ▸ paired_mono (fun _ _ => ent_mono sm) f5) R'.keep R'.deck (fun a ha => R'.all a (R'.exs a (C.dkE a ha)))
end
end PV
/-! calls of defs that give dicts -/
namespace PV
open PySem PySem.Spec PyProof.Rows L2 RZ StX SrtO Kw KL
section
variable {X : Cx} {a e : Expr} {es : List Expr} {pos : Pos} {po : WAO} {K : PySem.W.Frag} {w : World} {x y z : Str}
def given1 (Δ : VEnv) (Q : List (NK × PyData) → Prop) : Prop := match Δ with | [some (.dct false es)] => Q es | _ => False
def given2 (Δ : VEnv) (Q : List (NK × PyData) → List (NK × PyData) → Prop) : Prop := match Δ with | [some (.dct false es), some (.dct false fs)] => Q es fs | _ => False
abbrev wCallD1 (i : Nat) (F : PSpD) (p : WAO) : WS := fun E Γ => p Γ fun as => F as fun Δ => given1 Δ fun es => E.nx (Γ.set i (some (.dct false es)))
abbrev wCallD2 (i j : Nat) (F : PSpD) (p : WAO) : WS := fun E Γ => p Γ fun as => F as fun Δ => given2 Δ fun es fs => E.nx ((Γ.set i (some (.dct false es))).set j (some (.dct false fs)))
theorem Rel.set1 {C : Ctx} {σ : L2.St} {H H' : Hp} {ex : List Addr} {Γ : VEnv} (R : Rel C σ H ex Γ) {i : Nat} {a : Addr} {ks : Ents} {es : List (NK × PyData)} (na : H a = none) (ha : H' a = some (DicN C.w a ks)) (he : Paired (EntAt C.K (Mask H' (a :: ex))) ks es)
    (g : Grow C H H') (hd : C.dok H') (hA : ∀ b ∈ C.dk, ∃ o, H' b = some o ∧ NT o) : Rel C (σ.set i (some (.ref a))) H' (a :: ex) (Γ.set i (some (.dct false es))) ∧ Same (Mask H ex) (Mask H' (a :: ex)) :=
  ⟨R.setNewG (R.grow g hd hA) g na ⟨_, ha, nt_dic _ _ _⟩ ⟨a, ks, rfl, List.mem_cons_self, fun z => R.fresh na (R.exs a (C.dkE a z)), by rw [if_neg Bool.false_ne_true]; exact ⟨ha, .inl (R.mine na)⟩, he⟩, mask_ext R g na⟩
theorem ls_callD1 (i : Nat) {t : TA} {F : PSpD} (h : LAA K w t po) : LS K w (tAsg (tCall (spD K w F) [] E0 t) (gName i)) (wCallD1 i F po) := fun C σ H ex Γ e1 e2 R E' hp E s => h C σ H ex Γ e1 e2 R _ hp _ fun vs as H1 R1 g1 d1 q1 => by
  subst e1 e2
  show spD C.K C.w F (vs ++ []) H1 _ E0
  rw [List.append_nil]
  refine ⟨{ C with ex0 := ex, H0 := H1, M := C.dk, dkE := fun a h => R.exs a (C.dkE a h), dkM := fun _ h => h, ME := fun a h => R.exs a (C.dkE a h) }, as, _, rfl, rfl, d1, R1.all, R1.deck, q1, fun a ks es H' q na ha he g hd hA => ?_, fun t a b ks ls es fs H' q _ _ _ _ _ _ _ _ _ _ _ => q.elim⟩
  obtain ⟨r1, r2⟩ := R1.set1 (i := i) na ha he g hd hA
  exact s.nx _ _ _ _ r1 ((g1.mask R).trans r2) q
theorem ls_callD2 (i j : Nat) {t : TA} {F : PSpD} (h : LAA K w t po) : LS K w (tAsg (tCall (spD K w F) [] E0 t) (gTup K 2 (gCons (gName i) (gCons (gName j) gNil)))) (wCallD2 i j F po) := fun C σ H ex Γ e1 e2 R E' hp E s => h C σ H ex Γ e1 e2 R _ hp _ fun vs as H1 R1 g1 d1 q1 => by
  subst e1 e2
  show spD C.K C.w F (vs ++ []) H1 _ E0
  rw [List.append_nil]
  refine ⟨{ C with ex0 := ex, H0 := H1, M := C.dk, dkE := fun a h => R.exs a (C.dkE a h), dkM := fun _ h => h, ME := fun a h => R.exs a (C.dkE a h) }, as, _, rfl, rfl, d1, R1.all, R1.deck, q1, fun a ks es H' q _ _ _ _ _ _ => q.elim, fun t a b ks ls es fs H' q ne na nb ht ha hb he hf g hd hA => ?_⟩
  have g' : Grow C H1 H' := g
  -- the heap without the second dict
  let H2 : Hp := fun c => if c = b then none else H' c
  have nb2 : H2 b = none := if_pos rfl
  have o2 : ∀ c, c ≠ b → H2 c = H' c := fun c n => if_neg n
  have nbx : b ∉ ex := R1.fresh nb
  have gA : Grow C H1 H2 := fun c o n ec => by
    have nc : c ≠ b := fun z => by rw [z, nb] at ec; cases ec
    rw [o2 c nc]
    exact g' c o n ec
  have gB : Grow C H2 H' := fun c o n ec => by
    have nc : c ≠ b := fun z => by rw [z, nb2] at ec; cases ec
    rw [← o2 c nc]
    exact ec
  have dkb : ∀ c ∈ C.dk, c ≠ b := fun c hc z => nbx (R.exs b (C.dkE b (z ▸ hc)))
  have hd2 : C.dok H2 := C.stab H' H2 (fun c hc o ec => by rw [o2 c (dkb c hc)]; exact ec) hd
  have hA2 : ∀ c ∈ C.dk, ∃ o, H2 c = some o ∧ NT o := fun c hc => by rw [o2 c (dkb c hc)]; exact hA c hc
  have sm : Same (Mask H' (b :: a :: ex)) (Mask H2 (a :: ex)) := mask_same fun c o n ec => ⟨fun z => n (List.mem_cons_of_mem _ z), by rw [o2 c (fun z => n (z ▸ List.mem_cons_self))]; exact ec⟩
  obtain ⟨r1, r2⟩ := R1.set1 (H' := H2) (i := i) (ks := ks) (es := es) na (by rw [o2 a ne]; exact ha) (paired_mono (fun _ _ => ent_mono sm) he) gA hd2 hA2
  obtain ⟨r3, r4⟩ := r1.set1 (i := j) nb2 hb hf gB hd hA
  exact ⟨t, _, rfl, ht, rfl, _, _, rfl, _, _, rfl, rfl, s.nx _ _ _ _ r3 (((g1.mask R).trans r2).trans r4) q⟩
abbrev wCallOfD (F : PSp) (G : PSpD) (p : WAO) : WE := fun Γ Q => p Γ fun as => G as fun Δ => given1 Δ fun es => F [.dct true es] Q
theorem le_callOfD {t : TA} {F : PSp} {G : PSpD} (h : LAA K w t po) : LE K w (tCall (spV K w F) [] E0 (tCons (tCall (spD K w G) [] E0 t) tNil)) (wCallOfD F G po) := fun C σ H ex Γ e1 e2 R Q' hp Q k => h C σ H ex Γ e1 e2 R _ hp _ fun vs as H1 R1 g1 d1 q1 => by
  subst e1 e2
  show spD C.K C.w G (vs ++ []) H1 _ E0
  rw [List.append_nil]
  refine ⟨{ C with ex0 := ex, H0 := H1, M := C.dk, dkE := fun a h => R.exs a (C.dkE a h), dkM := fun _ h => h, ME := fun a h => R.exs a (C.dkE a h) }, as, _, rfl, rfl, d1, R1.all, R1.deck, q1, fun a ks es H2 q na ha he g hd hA => ?_, fun t a b ks ls es fs H' q _ _ _ _ _ _ _ _ _ _ _ => q.elim⟩
  have g' : Grow C H1 H2 := g
  have R2 := R1.grow g' hd hA
  refine ⟨{ C with ex0 := a :: ex, H0 := H2, M := C.dk, dkE := fun b h => List.mem_cons_of_mem _ (R.exs b (C.dkE b h)), dkM := fun _ h => h, ME := fun b h => List.mem_cons_of_mem _ (R.exs b (C.dkE b h)) }, [.dct true es], Q', rfl, rfl, .cons ⟨a, ks, rfl, List.mem_cons_self, fun z => R1.fresh na (R.exs a (C.dkE a z)), .inl ha, he⟩ .nil, fun b hb => ?_, R2.deck, q, fun r v H3 hq g3 hd3 hA3 hv => ?_⟩
  · rcases List.mem_cons.mp hb with rfl | hb
    · exact ⟨_, ha, nt_dic _ _ _⟩
    · exact R2.all b hb
  · have g3' : Grow C H2 H3 := g3
    have sm : Same (Mask H3 (a :: ex)) (Mask H3 ex) := mask_same fun c o n ec => ⟨fun z => n (List.mem_cons_of_mem _ z), ec⟩
    exact k v r H3 (R2.grow g3' hd3 hA3) ((g1.trans g').trans g3') (dp_mono sm hv) hq
theorem q_callOfD {k k' : Nat} {f f' : Addr} {fd fd' : FuncData} {ps ps' : List Str} {F : PSp} {G : PSpD} {p1 p2 pos' : Pos} (GF : GFn X.prog X.w X.K X.mg X.base k f fd ps (spV X.K X.w F)) (GG : GFn X.prog X.w X.K X.mg X.base k' f' fd' ps' (spD X.K X.w G)) (hq : Quiet X.A) (hr : Room k X.A) (hr' : Room k' X.A)
    (hg : Gl X x) (hm : X.mg x = some (.ref f)) (hk : PySem.W.keepIn X.K (.ref f) = true) (hb : Binds X.K fd ps []) (hg' : Gl X y) (hm' : X.mg y = some (.ref f')) (hk' : PySem.W.keepIn X.K (.ref f') = true) (hb' : Binds X.K fd' ps' [])
    (ha : QAA X (e :: es) po) (hdb : (x == ("__debug__" : Str)) = false := by decide) (hdb' : (y == ("__debug__" : Str)) = false := by decide)
    (he : starEach (e :: es) X.env = (false, eval e X.env) :: starEach es X.env := by rfl) (hpl : (backTo pos' (starEach es X.env)).any (·.1) = false := by rfl)
    (he2 : starEach [.Call (.Name y p2) (e :: es) [] pos'] X.env = (false, eval (.Call (.Name y p2) (e :: es) [] pos') X.env) :: starEach [] X.env := by rfl) (hpl2 : (backTo pos (starEach [] X.env)).any (·.1) = false := by rfl) :
    QE X (.Call (.Name x p1) [.Call (.Name y p2) (e :: es) [] pos'] [] pos) (wCallOfD F G po) :=
  let ⟨_, a1, a2⟩ := ha.ex; ⟨_, pe_callG GF hq hr hg hm hk hb .nil (pa_cons (pe_callG GG hq hr' hg' hm' hk' hb' .nil a1 hdb' he hpl) pa_nil he2) hdb he2 hpl2, le_callOfD a2⟩
theorem qs_callD1 (i : Nat) {k : Nat} {f : Addr} {fd : FuncData} {ps : List Str} {sp : PSpD} {p1 xp cpos : Pos} (hN : X.N.Nodup) (hi : X.N[i]? = some y) (hx : Loc X.env.scope y) (G : GFn X.prog X.w X.K X.mg X.base k f fd ps (spD X.K X.w sp)) (hq : Quiet X.A) (hr : Room k X.A) (hg : Gl X x) (hm : X.mg x = some (.ref f))
    (hk : PySem.W.keepIn X.K (.ref f) = true) (hb : Binds X.K fd ps []) (ha : QAA X (e :: es) po) (hdb : (x == ("__debug__" : Str)) = false := by decide)
    (he : starEach (e :: es) X.env = (false, eval e X.env) :: starEach es X.env := by rfl) (hpl : (backTo cpos (starEach es X.env)).any (·.1) = false := by rfl)
    (hs : swapsWith (.Call (.Name x p1) (e :: es) [] cpos) (some (.Name y xp)) pos.line X.env = pure false := by rfl) (hf : X.fn y = true ∨ X.env.scope.names.lookup y = some .local := by first | exact .inl rfl | exact .inr rfl | assumption) :
    QS X (.Assign [.Name y xp] (.Call (.Name x p1) (e :: es) [] cpos) pos) (wCallD1 i sp po) :=
  let ⟨_, a1, a2⟩ := ha.ex; ⟨_, ps_set hN hi hx (pe_callG G hq hr hg hm hk hb .nil a1 hdb he hpl) hs hf, ls_callD1 i a2⟩
theorem qs_callD2 (i j : Nat) {k kt : Nat} {f : Addr} {fd : FuncData} {ps : List Str} {sp : PSpD} {p1 xp zp tp cpos : Pos} (hN : X.N.Nodup) (hi : X.N[i]? = some y) (hj : X.N[j]? = some z) (hx : Loc X.env.scope y) (hz : Loc X.env.scope z) (G : GFn X.prog X.w X.K X.mg X.base k f fd ps (spD X.K X.w sp)) (hq : Quiet X.A) (hr : Room k X.A) (hg : Gl X x) (hm : X.mg x = some (.ref f))
    (hk : PySem.W.keepIn X.K (.ref f) = true) (hb : Binds X.K fd ps []) (ha : QAA X (e :: es) po) (hdb : (x == ("__debug__" : Str)) = false := by decide)
    (he : starEach (e :: es) X.env = (false, eval e X.env) :: starEach es X.env := by rfl) (hpl : (backTo cpos (starEach es X.env)).any (·.1) = false := by rfl)
    (hc : X.calm = true := by rfl) (hn : (assignEach [.Name y xp, .Name z zp] X.env).length = 2 := by rfl) (hst : (assignEach [.Name y xp, .Name z zp] X.env).findIdx? (·.1) = none := by rfl)
    (hs1 : (assignEach [.Name y xp, .Name z zp] X.env).map (·.2) = assign (.Name y xp) X.env :: (assignEach [.Name z zp] X.env).map (·.2) := by rfl) (hs2 : (assignEach [.Name z zp] X.env).map (·.2) = assign (.Name z zp) X.env :: (assignEach [] X.env).map (·.2) := by rfl)
    (hs : swapsWithSole [.Tuple [.Name y xp, .Name z zp] kt tp] (.Call (.Name x p1) (e :: es) [] cpos) pos.line X.env = pure false := by rfl) (hw : swappedStores [.Tuple [.Name y xp, .Name z zp] kt tp] (.Call (.Name x p1) (e :: es) [] cpos) X.env = pure none := by rfl)
    (h1 : (assignEach [.Tuple [.Name y xp, .Name z zp] kt tp] X.env).map (·.2) = [assign (.Tuple [.Name y xp, .Name z zp] kt tp) X.env] := by rfl)
    (hf : X.fn y = true ∨ X.env.scope.names.lookup y = some .local := by first | exact .inl rfl | exact .inr rfl | assumption) (hf' : X.fn z = true ∨ X.env.scope.names.lookup z = some .local := by first | exact .inl rfl | exact .inr rfl | assumption) :
    QS X (.Assign [.Tuple [.Name y xp, .Name z zp] kt tp] (.Call (.Name x p1) (e :: es) [] cpos) pos) (wCallD2 i j sp po) :=
  let ⟨_, a1, a2⟩ := ha.ex; ⟨_, ps_asg (pe_callG G hq hr hg hm hk hb .nil a1 hdb he hpl) (pg_tup hc (pgs_cons (pg_name hN hi hx hf) (pgs_cons (pg_name hN hj hz hf') pgs_nil hs2) hs1) hn hst) hs hw h1, ls_callD2 i j a2⟩
end
end PV
/-! a dict that is only read, walked by a for loop -/
namespace PV
open PySem PySem.Spec PyProof.Rows L2 RZ StX SrtO Kw KL
def noLk : VEnv → Bool
  | [] => true
  | some (.dlk _) :: _ => false
  | _ :: r => noLk r
theorem noLk_of : ∀ {Γ : VEnv}, noLk Γ = true → ∀ {i : Nat} {es : List (NK × PyData)}, Γ[i]? ≠ some (some (.dlk es))
  | [], _, i, es => by simp
  | x :: r, h, 0, es => by
    intro e
    simp only [List.getElem?_cons_zero, Option.some.injEq] at e
    subst e
    cases h
  | x :: r, h, i + 1, es => by
    intro e
    simp only [List.getElem?_cons_succ] at e
    refine noLk_of (Γ := r) ?_ e
    cases x with
    | none => exact h
    | some y => cases y <;> first | exact h | cases h
def Ctx.hold (C : Ctx) (a : Addr) (u : HO) (hk : a ∉ C.dk) : Ctx := { C with H0 := upd C.H0 a u, ex0 := a :: C.ex0, M := C.M.filter fun b => decide (b ≠ a), dkE := fun b h => List.mem_cons_of_mem _ (C.dkE b h), dkM := fun b h => List.mem_filter.mpr ⟨C.dkM b h, decide_eq_true fun z => hk (z ▸ h)⟩, ME := fun b h => List.mem_cons_of_mem _ (C.ME b (List.mem_filter.mp h).1) }
section
variable {C : Ctx} {σ : L2.St} {H H' : Hp} {ex : List Addr} {Γ : VEnv} {a : Addr} {u : HO} {hk : a ∉ C.dk}
theorem hold_mine {b : Addr} (n : b ≠ a) : Mine (C.hold a u hk) b ↔ Mine C b := by
  constructor
  · rintro ⟨h1, h2⟩
    have h2 : upd C.H0 a u b = none := h2
    rw [upd_ne n] at h2
    exact ⟨fun z => h1 (List.mem_cons_of_mem _ z), h2⟩
  · rintro ⟨h1, h2⟩
    refine ⟨fun z => (List.mem_cons.mp z).elim n h1, ?_⟩
    show upd C.H0 a u b = none
    rw [upd_ne n]
    exact h2
theorem hold_M {b : Addr} (n : b ≠ a) : b ∈ (C.hold a u hk).M ↔ b ∈ C.M :=
  ⟨fun h => (List.mem_filter.mp h).1, fun h => List.mem_filter.mpr ⟨h, decide_eq_true n⟩⟩
theorem nt_frz (od : Obj) (w : World) (a : Addr) (ks : Ents) : NT (.frz od (DicN w a ks)) := ⟨fun _ q => (by cases q), fun _ _ q => (by cases q)⟩
theorem mask_eq (h : a ∈ ex) (hoth : ∀ b, b ≠ a → H' b = H b) : Mask H' ex = Mask H ex := by
  funext b
  by_cases c : b ∈ ex
  · rw [mask_in c, mask_in c]
  · rw [mask_out c, mask_out c, hoth b (fun z => c (z ▸ h))]
/-- a dict read or held -/
theorem rd_move {b : Addr} {ks ks' : Ents} {od : Obj} (h : Rd H b (DicN C.w b ks')) (hoth : ∀ b, b ≠ a → H' b = H b) (h1 : H a = some (DicN C.w a ks) ∨ H a = some (.frz od (DicN C.w a ks))) (h2 : H' a = some (DicN C.w a ks) ∨ H' a = some (.frz od (DicN C.w a ks))) : Rd H' b (DicN C.w b ks') := by
  by_cases n : b = a
  · subst n
    have e : DicN C.w b ks' = DicN C.w b ks := by
      rcases h with h | ⟨o, h⟩
      · rcases h1 with h1 | h1
        · exact Option.some.inj (h.symm.trans h1)
        · rw [h] at h1; cases h1
      · rcases h1 with h1 | h1
        · rw [h] at h1; cases h1
        · have := Option.some.inj (h.symm.trans h1)
          injection this
    rw [e]
    rcases h2 with h2 | h2
    · exact .inl h2
    · exact .inr ⟨od, h2⟩
  · unfold Rd at h ⊢
    rw [hoth b n]
    exact h
theorem Rel.hold (R : Rel C σ H ex Γ) (nl : noLk Γ = true) {i : Nat} {ks : Ents} {es : List (NK × PyData)} {od : Obj} (g : Γ[i]? = some (some (.dct true es))) (sv : σ[i]? = some (some (.ref a))) (h2 : a ∈ ex) (hk : a ∉ C.dk) (hoth : ∀ b, b ≠ a → H' b = H b)
    (ha : H' a = some (.frz od (DicN C.w a ks))) (hold : H a = some (DicN C.w a ks) ∨ H a = some (.frz od (DicN C.w a ks))) : Rel (C.hold a (.frz od (DicN C.w a ks)) hk) σ H' ex Γ := by
  have em := mask_eq (H := H) (H' := H') h2 hoth
  refine ⟨R.len, fun j x e => ?_, R.apart, fun b hb => ?_, fun b hb => ?_, fun b o nb eb => ?_, ?_⟩
  · obtain ⟨v, h1, h3⟩ := R.slot j x e
    refine ⟨v, h1, ?_⟩
    have ne : ∀ b, v = .ref b → x.mut → b ≠ a := fun b eb m z => by
      by_cases c : j = i
      · subst c
        rw [g] at e
        cases e
        cases m
      · exact R.apart j i _ _ a c e g m trivial (by rw [h1, eb, z]) sv
    cases x with
    | val d =>
      show Dd C.K (Mask H' ex) v d
      rw [em]
      exact h3
    | lst ds =>
      obtain ⟨b, xs, h1, h2, h3, h4, h5⟩ := h3
      have n := ne b h1 True.intro
      exact ⟨b, xs, h1, h2, (hold_mine n).mpr h3, by rw [hoth b n]; exact h4, by rw [em]; exact h5⟩
    | dct lk es =>
      obtain ⟨b, ks', h1, h2, h3, h4, h5⟩ := h3
      refine ⟨b, ks', h1, h2, h3, ?_, by rw [em]; exact h5⟩
      cases lk with
      | true =>
        rw [if_pos rfl] at h4 ⊢
        exact rd_move h4 hoth hold (.inr ha)
      | false =>
        rw [if_neg Bool.false_ne_true] at h4 ⊢
        have n := ne b h1 rfl
        exact ⟨by rw [hoth b n]; exact h4.1, h4.2.elim (fun m => .inl ((hold_mine n).mpr m)) (fun m => .inr ((hold_M n).mpr m))⟩
    | dlk es => exact absurd e (noLk_of nl)
    | pdt b es =>
      obtain ⟨ks', h1, h2, h3, h4, h5⟩ := h3
      have n := ne b h1 True.intro
      exact ⟨ks', h1, h2, h3, ⟨by rw [hoth b n]; exact h4.1, (hold_M n).mpr h4.2⟩, by rw [em]; exact h5⟩
    | deck => exact h3
    | raw u => exact h3
  · rcases List.mem_cons.mp hb with rfl | hb
    · exact h2
    · exact R.exs b hb
  · by_cases c : b = a
    · subst c
      exact ⟨_, ha, nt_frz _ _ _ _⟩
    · rw [hoth b c]
      exact R.all b hb
  · have eb : upd C.H0 a (.frz od (DicN C.w a ks)) b = some o := eb
    by_cases c : b = a
    · subst c
      rw [upd_same] at eb
      rw [ha]
      exact eb
    · rw [upd_ne c] at eb
      rw [hoth b c]
      exact R.keep b o (fun z => nb ((hold_M c).mpr z)) eb
  · exact C.stab H _ (fun b hb u eb => by rw [hoth b (fun (z : b = a) => hk (z ▸ hb))]; exact eb) R.deck
theorem Rel.unhold {ks : Ents} {od : Obj} (R : Rel (C.hold a (.frz od (DicN C.w a ks)) hk) σ H ex Γ) (nl : noLk Γ = true) (hoth : ∀ b, b ≠ a → H' b = H b) (ha : H' a = some (DicN C.w a ks) ∨ H' a = some (.frz od (DicN C.w a ks)))
    (k0 : ∀ o, a ∉ C.M → C.H0 a = some o → H' a = some o) : Rel C σ H' ex Γ ∧ Mask H' ex = Mask H ex := by
  have nM : a ∉ (C.hold a (.frz od (DicN C.w a ks)) hk).M := fun z => of_decide_eq_true (List.mem_filter.mp z).2 rfl
  have fa : H a = some (.frz od (DicN C.w a ks)) := R.keep a _ nM upd_same
  have h2 : a ∈ ex := R.exs a List.mem_cons_self
  have em := mask_eq (H := H) (H' := H') h2 hoth
  refine ⟨⟨R.len, fun j x e => ?_, R.apart, fun b hb => R.exs b (List.mem_cons_of_mem _ hb), fun b hb => ?_, fun b o nb eb => ?_, ?_⟩, em⟩
  · obtain ⟨v, h1, h3⟩ := R.slot j x e
    refine ⟨v, h1, ?_⟩
    cases x with
    | val d =>
      show Dd C.K (Mask H' ex) v d
      rw [em]
      exact h3
    | lst ds =>
      obtain ⟨b, xs, h1, h2, h3, h4, h5⟩ := h3
      have n : b ≠ a := fun z => by rw [z, fa] at h4; cases h4
      exact ⟨b, xs, h1, h2, (hold_mine n).mp h3, by rw [hoth b n]; exact h4, by rw [em]; exact h5⟩
    | dct lk es =>
      obtain ⟨b, ks', h1, h2, h3, h4, h5⟩ := h3
      refine ⟨b, ks', h1, h2, h3, ?_, by rw [em]; exact h5⟩
      cases lk with
      | true =>
        rw [if_pos rfl] at h4 ⊢
        exact rd_move (C := C) h4 hoth (.inr fa) ha
      | false =>
        rw [if_neg Bool.false_ne_true] at h4 ⊢
        have n : b ≠ a := fun z => by
          have := h4.1
          rw [z, fa] at this
          cases this
        exact ⟨by rw [hoth b n]; exact h4.1, h4.2.elim (fun m => .inl ((hold_mine n).mp m)) (fun m => .inr ((hold_M n).mp m))⟩
    | dlk es => exact absurd e (noLk_of nl)
    | pdt b es =>
      obtain ⟨ks', h1, h2, h3, h4, h5⟩ := h3
      have n : b ≠ a := fun z => by
        have := h4.1
        rw [z, fa] at this
        cases this
      exact ⟨ks', h1, h2, h3, ⟨by rw [hoth b n]; exact h4.1, (hold_M n).mp h4.2⟩, by rw [em]; exact h5⟩
    | deck => exact h3
    | raw u => exact h3
  · by_cases c : b = a
    · subst c
      rcases ha with ha | ha
      · exact ⟨_, ha, nt_dic _ _ _⟩
      · exact ⟨_, ha, nt_frz _ _ _ _⟩
    · rw [hoth b c]
      exact R.all b hb
  · by_cases c : b = a
    · subst c
      exact k0 o nb eb
    · rw [hoth b c]
      refine R.keep b o (fun z => nb ((hold_M c).mp z)) ?_
      show upd C.H0 a _ b = some o
      rw [upd_ne c]
      exact eb
  · exact C.stab H _ (fun b hb u eb => by rw [hoth b (fun (z : b = a) => hk (z ▸ hb))]; exact eb) R.deck
end
end PV
/-! for loops over a dict that is only read -/
namespace PV
open PySem PySem.Spec PyProof.Rows L2 RZ StX SrtO Kw KL
theorem for_core {K : PySem.W.Frag} {w : World} {C : Ctx} {σ : L2.St} {H1 : Hp} {ex : List Addr} {Γ : VEnv} {J : It} {ds : List PyData} {t : TG} {tb : TS} {g : WG} {body : WS} {E2 : WEnds} {E : Ends} (e1 : C.K = K) (e2 : C.w = w) (R1 : Rel C σ H1 ex Γ) (ok : ItOk C J ex H1 false ds)
    (q : ∃ I : Nat → VEnv → Prop, I 0 Γ ∧ (∀ (i : Nat) (x : PyData) (Γ : VEnv), ds[i]? = some x → I i Γ → g x Γ fun Γ1 => body { nx := I (i + 1), ct := I (i + 1), bk := E2.nx, rt := E2.rt } Γ1) ∧ ∀ Γ, I ds.length Γ → E2.nx Γ)
    (hg : LG K w t g) (hb : LS K w tb body) (s : SubE C H1 ex E2 E) : ∃ W : Nat → Nat → L2.St → Hp → Prop, (∃ m, W 0 m σ H1) ∧ ∀ i m σ H, W i m σ H →
      (J.stop i H ∧ E.nx σ H) ∨ (J.go i H ∧ ∃ N : L2.St → Hp → Prop, (∀ σ' H', N σ' H' → ∃ m', m' < m ∧ W (i + 1) m' σ' H') ∧ ∀ x H', J.yld i H x H' → t x σ H' fun σ2 H2 => tb { E with nx := N, ct := N, bk := E.nx } σ2 H2) := by
  obtain ⟨I, i0, turn, fin⟩ := q
  refine ⟨fun i m σ H => m = ds.length - i ∧ i ≤ ds.length ∧ ∃ ex2 Γ2, Rel C σ H ex2 Γ2 ∧ Same (Mask H1 ex) (Mask H ex2) ∧ I i Γ2, ⟨ds.length, rfl, Nat.zero_le _, ex, Γ, R1, Same.refl _, i0⟩, ?_⟩
  rintro i m σ2 H2 ⟨rfl, hi, ex2, Γ2, R2, m2, h2⟩
  obtain ⟨o1, o2⟩ := ok σ2 H2 ex2 Γ2 R2 m2 (fun z => by cases z) i
  rcases Nat.lt_or_ge i ds.length with l | l
  · refine .inr ⟨(o1 l).1, fun σ H => ∃ ex3 Γ3, Rel C σ H ex3 Γ3 ∧ Same (Mask H1 ex) (Mask H ex3) ∧ I (i + 1) Γ3, fun σ' H' h => ⟨ds.length - (i + 1), by omega, rfl, l, h⟩, fun x H3 y => ?_⟩
    obtain ⟨s3, d, ed, hd⟩ := (o1 l).2 x H3 y
    have R3 := R2.same s3
    refine hg C σ2 H3 ex2 Γ2 x d e1 e2 R3 hd _ (turn i d Γ2 ed h2) _ fun σ4 H4 ex4 Γ4 R4 m4 q4 => ?_
    have m5 : Same (Mask H1 ex) (Mask H4 ex4) := (m2.trans (Grow.mask R2 (.of s3))).trans m4
    have s' := s.after m5
    exact hb C σ4 H4 ex4 Γ4 e1 e2 R4 _ q4 _ ⟨fun σ' H' ex' Γ' R' m' q' => ⟨ex', Γ', R', m5.trans m', q'⟩, s'.rt, s'.nx, fun σ' H' ex' Γ' R' m' q' => ⟨ex', Γ', R', m5.trans m', q'⟩⟩
  · have e : i = ds.length := by omega
    exact .inl ⟨o2 e, s.nx σ2 H2 ex2 Γ2 R2 m2 (fin Γ2 (e ▸ h2))⟩
theorem itok_keysH {C : Ctx} {ex : List Addr} {H : Hp} {d : Addr} {o : Obj} {ks : Ents} {es : List (NK × PyData)} (hd : ∀ σ2 H2 ex2 Γ2, Rel C σ2 H2 ex2 Γ2 → H2 d = some (.frz o (DicN C.w d ks))) (h : Paired (EntAt C.K (Mask H ex)) ks es) : ItOk C (Itkn C.w d o ks) ex H false (es.map (·.1.data)) := fun σ2 H2 ex2 Γ2 R2 s g i => by
  have h2 := hd σ2 H2 ex2 Γ2 R2
  have l := ent_len h
  rw [List.length_map]
  refine ⟨fun hi => ⟨⟨h2, by omega⟩, fun x H3 y => ?_⟩, fun hi => ⟨h2, by omega⟩⟩
  obtain ⟨rfl, p, hp, rfl⟩ := y
  obtain ⟨q, hq, r⟩ := pair_at h hp
  refine ⟨Same.refl _, q.1.data, by rw [List.getElem?_map, hq]; rfl, ?_⟩
  rw [← r.1]
  exact R2.free (noL_key _) (dpp_mono (s.trans (mask_le _ _)) r.2.1.dp)
theorem itok_itemsH {C : Ctx} {ex : List Addr} {H : Hp} {d : Addr} {o : Obj} {ks : Ents} {es : List (NK × PyData)} (hd : ∀ σ2 H2 ex2 Γ2, Rel C σ2 H2 ex2 Γ2 → H2 d = some (.frz o (DicN C.w d ks))) (h : Paired (EntAt C.K (Mask H ex)) ks es) : ItOk C (Itin C.w d o ks) ex H false (es.map fun p => pairD p.1.data p.2) := itok_pairs fun σ2 H2 ex2 Γ2 R2 s g i => by
  have h2 := hd σ2 H2 ex2 Γ2 R2
  have l := ent_len h
  rw [List.length_map]
  refine ⟨fun hi => ⟨⟨h2, by omega⟩, fun x H3 y => ?_⟩, fun hi => ⟨h2, by omega⟩⟩
  obtain ⟨T, p, hp, rfl, nT, rfl⟩ := y
  obtain ⟨q, hq, r⟩ := pair_at h hp
  refine ⟨T, _, _, q.1.data, q.2, rfl, nT, rfl, by rw [List.getElem?_map, hq]; rfl, ?_, dp_mono s r.2.2⟩
  rw [← r.1]
  exact R2.free (noL_key _) (dpp_mono (s.trans (mask_le _ _)) r.2.1.dp)
def noE (E : WEnds) : WEnds := { nx := fun Γ => noLk Γ = true ∧ E.nx Γ, rt := fun d Γ => noLk Γ = true ∧ E.rt d Γ }
abbrev wForR (f : NK × PyData → PyData) (i : Nat) (g : WG) (body : WS) : WS := fun E Γ => slotR Γ i fun es => noLk Γ = true ∧ ∃ I : Nat → VEnv → Prop, I 0 Γ ∧
  (∀ (k : Nat) (x : PyData) (Γ : VEnv), (es.map f)[k]? = some x → I k Γ → g x Γ fun Γ1 => body { nx := I (k + 1), ct := I (k + 1), bk := (noE E).nx, rt := (noE E).rt } Γ1) ∧ ∀ Γ, I (es.map f).length Γ → (noE E).nx Γ
theorem ps_orS {X : Cx} {st : Stmt} {t t' : TS} (h : PS X st t) (h' : PS X st t') : PS X st (fun D σ H => t D σ H ∨ t' D σ H) := ⟨fun pins s σ H D I q => q.elim (h.run pins s σ H D I) (h'.run pins s σ H D I)⟩
theorem ls_forR {K : PySem.W.Frag} {w : World} (i : Nat) {f : NK × PyData → PyData} {It' : World → Addr → Obj → Ents → It} {ti : TI} {t : TG} {tb : TS} {g : WG} {body : WS} (hti : ti = fun σ H R => tVar i σ H fun x H1 => ∃ d o ks, x = .ref d ∧ H1 d = some (.frz o (DicN w d ks)) ∧ R (It' w d o ks) H1)
    (hit : ∀ {C : Ctx} {ex : List Addr} {H : Hp} {d : Addr} {o : Obj} {ks : Ents} {es : List (NK × PyData)}, (∀ σ2 H2 ex2 Γ2, Rel C σ2 H2 ex2 Γ2 → H2 d = some (.frz o (DicN C.w d ks))) → Paired (EntAt C.K (Mask H ex)) ks es → ItOk C (It' C.w d o ks) ex H false (es.map f))
    (hg : LG K w t g) (hb : LS K w tb body) : LS K w (fun D σ H => tLock (tFor ti t tb) D σ H ∨ tFor ti t tb D σ H) (wForR f i g body) := fun C σ H ex Γ e1 e2 R E' hp E s => by
  subst hti
  obtain ⟨es, g0, nl, q⟩ := slotR_of hp
  obtain ⟨a, ks, sv, h2, h3, h4, h5⟩ := R.dict g0 (.inl ⟨true, rfl⟩)
  have out : ∀ {H1 : Hp} {ex1 : List Addr} {u : HO}, Same (Mask H1 (a :: ex1)) (Mask (upd H1 a u) ex1) := mask_same fun b o n eb => ⟨fun z => n (List.mem_cons_of_mem _ z), by rw [upd_ne (show b ≠ a from fun z => n (by rw [z]; exact List.mem_cons_self))]; exact eb⟩
  rcases h4 with h4 | ⟨od, h4⟩
  · refine .inl ⟨a, _, h4, True.intro, fun od => ?_⟩
    have hoth : ∀ b, b ≠ a → upd H a (.frz od (DicN C.w a ks)) b = H b := fun b n => upd_ne n
    have R1 := R.hold nl g0 sv h2 h3 hoth upd_same (.inl h4)
    have em := mask_eq (H := H) (H' := upd H a (.frz od (DicN C.w a ks))) h2 hoth
    have nM : a ∉ (C.hold a (.frz od (DicN C.w a ks)) h3).M := fun z => of_decide_eq_true (List.mem_filter.mp z).2 rfl
    have fa : ∀ σ2 H2 ex2 Γ2, Rel (C.hold a (.frz od (DicN C.w a ks)) h3) σ2 H2 ex2 Γ2 → H2 a = some (.frz od (DicN C.w a ks)) := fun σ2 H2 ex2 Γ2 R2 => R2.keep a _ nM upd_same
    have back : ∀ σ' H' ex' Γ', Rel (C.hold a (.frz od (DicN C.w a ks)) h3) σ' H' ex' Γ' → noLk Γ' = true → Rel C σ' (upd H' a (DicN C.w a ks)) ex' Γ' ∧ Mask (upd H' a (DicN C.w a ks)) ex' = Mask H' ex' := fun σ' H' ex' Γ' R' nl' =>
      R'.unhold nl' (fun b n => upd_ne n) (.inl upd_same) fun o nm eo => by rw [upd_same, ← h4]; exact R.keep a o nm eo
    refine ⟨_, sv, a, od, ks, rfl, e2 ▸ upd_same, ?_⟩
    rw [← e2]
    refine for_core (C := C.hold a (.frz od (DicN C.w a ks)) h3) (E2 := noE E') e1 e2 R1 (hit (C := C.hold a (.frz od (DicN C.w a ks)) h3) fa (by rw [em]; exact h5)) q hg hb ⟨fun σ' H' ex' Γ' R' m q' => ?_, fun σ' H' ex' Γ' v d R' hd q' => ?_, fun _ _ _ _ _ _ q => q.elim, fun _ _ _ _ _ _ q => q.elim⟩
    · obtain ⟨b1, b2⟩ := back σ' H' ex' Γ' R' q'.1
      refine ⟨fa _ _ _ _ R', s.nx σ' _ ex' Γ' b1 ?_ q'.2⟩
      rw [b2, ← em]
      exact m
    · obtain ⟨b1, b2⟩ := back σ' H' ex' Γ' R' q'.1
      exact ⟨fa _ _ _ _ R', s.rt σ' _ ex' Γ' v d b1 (dp_mono out hd) q'.2⟩
  · refine .inr ?_
    have R1 := R.hold nl g0 sv h2 h3 (fun _ _ => rfl) h4 (.inr h4)
    have nM : a ∉ (C.hold a (.frz od (DicN C.w a ks)) h3).M := fun z => of_decide_eq_true (List.mem_filter.mp z).2 rfl
    have fa : ∀ σ2 H2 ex2 Γ2, Rel (C.hold a (.frz od (DicN C.w a ks)) h3) σ2 H2 ex2 Γ2 → H2 a = some (.frz od (DicN C.w a ks)) := fun σ2 H2 ex2 Γ2 R2 => R2.keep a _ nM upd_same
    have back : ∀ σ' H' ex' Γ', Rel (C.hold a (.frz od (DicN C.w a ks)) h3) σ' H' ex' Γ' → noLk Γ' = true → Rel C σ' H' ex' Γ' := fun σ' H' ex' Γ' R' nl' =>
      (R'.unhold nl' (fun b n => rfl) (.inr (fa _ _ _ _ R')) fun o nm eo => by rw [fa _ _ _ _ R', ← h4]; exact R.keep a o nm eo).1
    refine ⟨_, sv, a, od, ks, rfl, e2 ▸ h4, ?_⟩
    rw [← e2]
    refine for_core (C := C.hold a (.frz od (DicN C.w a ks)) h3) (E2 := noE E') e1 e2 R1 (hit (C := C.hold a (.frz od (DicN C.w a ks)) h3) fa h5) q hg hb ⟨fun σ' H' ex' Γ' R' m q' => ?_, fun σ' H' ex' Γ' v d R' hd q' => ?_, fun _ _ _ _ _ _ q => q.elim, fun _ _ _ _ _ _ q => q.elim⟩
    · exact s.nx σ' _ ex' Γ' (back σ' H' ex' Γ' R' q'.1) m q'.2
    · refine s.rt σ' _ ex' Γ' v d (back σ' H' ex' Γ' R' q'.1) (dp_mono (mask_same fun b o n eb => ⟨fun z => n (List.mem_cons_of_mem _ z), eb⟩) hd) q'.2
section
variable {X : Cx} {tg : Expr} {pos xp : Pos} {x : Str} {g : WG} {body : WS}
theorem qs_forKeys (i : Nat) {sts : List Stmt} (hp : PassesOwn (model X.prog X.w) X.A X.env X.xe) (hg : QG X tg g) (hb : QSs X sts body) (hN : X.N[i]? = some x := by rfl) (hv : Vis X.env.scope x := by first | exact Or.inl rfl | exact Or.inr (Or.inl rfl) | exact Or.inr (Or.inr rfl))
    (hd : (x == ("__debug__" : Str)) = false := by decide) (hcd : (x == ("__classdict__" : Str)) = false := by decide) (hc : X.calm = true := by rfl) (hs : ∀ y, foldedSetIterable (.Name x xp) X.env y = pure y := by intro _; rfl) :
    QS X (.For tg (.Name x xp) sts [] pos) (wForR (·.1.data) i g body) := let ⟨_, g1, g2⟩ := hg.ex; let ⟨_, b1, b2⟩ := hb.ex; have p := ps_for hp hc (pi_keysN (pe_var hN hv hd hcd) rfl) g1 b1 hs; ⟨_, ps_orS (ps_lock p) p, ls_forR i rfl itok_keysH g2 b2⟩
theorem qs_forItems (i : Nat) {sts : List Stmt} {elts : List Expr} {kk : Nat} {tpos apos cpos : Pos} (hp : PassesOwn (model X.prog X.w) X.A X.env X.xe) (hg : QG X (.Tuple elts kk tpos) g) (hb : QSs X sts body) (hN : X.N[i]? = some x := by rfl) (hv : Vis X.env.scope x := by first | exact Or.inl rfl | exact Or.inr (Or.inl rfl) | exact Or.inr (Or.inr rfl))
    (hd : (x == ("__debug__" : Str)) = false := by decide) (hcd : (x == ("__classdict__" : Str)) = false := by decide) (hc : X.calm = true := by rfl)
    (hbase : attributeBase (.Name x xp) "items" X.env (eval (.Name x xp) X.env) = eval (.Name x xp) X.env := by rfl) (hline : (apos.endLine == cpos.line) = true := by rfl)
    (hs : ∀ y, foldedSetIterable (.Call (.Attribute (.Name x xp) "items" apos) [] [] cpos) X.env y = pure y := by intro _; rfl) :
    QS X (.For (.Tuple elts kk tpos) (.Call (.Attribute (.Name x xp) "items" apos) [] [] cpos) sts [] pos) (wForR (fun p => pairD p.1.data p.2) i g body) := let ⟨_, g1, g2⟩ := hg.ex; let ⟨_, b1, b2⟩ := hb.ex; have p := ps_for hp hc (pi_itemsN (pe_var hN hv hd hcd) rfl hbase hline) g1 b1 hs; ⟨_, ps_orS (ps_lock p) p, ls_forR i rfl itok_itemsH g2 b2⟩
end
end PV
namespace KL
open PySem PySem.Spec PyProof.Rows L2 RZ StX SrtO Kw KM PV
def topS (i : Nat) : Stmt := PySem.Challenge.pw_slantpanes_k13_sums_differences_and_mult.main.body.getD i (.Pass ⟨0, 0, 0, 0⟩)
abbrev s_is_integer : Stmt := topS 8
abbrev N_is_integer : List Str := ["thing"]
theorem sc_is_integer : FnScope N_is_integer ["thing"] (defScope s_is_integer) := ⟨rfl, rfl, rfl, by decide +kernel, rfl, by decide +kernel, by decide +kernel⟩
abbrev s_primes_of : Stmt := topS 9
abbrev N_primes_of : List Str := ["number", "p"]
theorem sc_primes_of : FnScope N_primes_of ["number"] (defScope s_primes_of) := ⟨rfl, rfl, rfl, by decide +kernel, rfl, by decide +kernel, by decide +kernel⟩
abbrev s_part_at : Stmt := topS 10
abbrev N_part_at : List Str := ["number", "p", "part"]
theorem sc_part_at : FnScope N_part_at ["number", "p"] (defScope s_part_at) := ⟨rfl, rfl, rfl, by decide +kernel, rfl, by decide +kernel, by decide +kernel⟩
abbrev s_common_divisor : Stmt := topS 11
abbrev N_common_divisor : List Str := ["number", "others", "divisor", "other"]
theorem sc_common_divisor : FnScope N_common_divisor ["number", "others"] (defScope s_common_divisor) := ⟨rfl, rfl, rfl, by decide +kernel, rfl, by decide +kernel, by decide +kernel⟩
abbrev s_is_period : Stmt := topS 15
abbrev N_is_period : List Str := ["thing", "rest", "multiplied", "p"]
theorem sc_is_period : FnScope N_is_period ["thing"] (defScope s_is_period) := ⟨rfl, rfl, rfl, by decide +kernel, rfl, by decide +kernel, by decide +kernel⟩
abbrev s_is_cell : Stmt := topS 16
abbrev N_is_cell : List Str := ["thing", "number"]
theorem sc_is_cell : FnScope N_is_cell ["thing"] (defScope s_is_cell) := ⟨rfl, rfl, rfl, by decide +kernel, rfl, by decide +kernel, by decide +kernel⟩
abbrev s_is_stripe : Stmt := topS 17
abbrev N_is_stripe : List Str := ["thing", "m", "c", "r", "number"]
theorem sc_is_stripe : FnScope N_is_stripe ["thing"] (defScope s_is_stripe) := ⟨rfl, rfl, rfl, by decide +kernel, rfl, by decide +kernel, by decide +kernel⟩
abbrev s_is_heap : Stmt := topS 19
abbrev N_is_heap : List Str := ["thing", "stripes", "item", "stripe", "_", "before", "behind"]
theorem sc_is_heap : FnScope N_is_heap ["thing"] (defScope s_is_heap) := ⟨rfl, rfl, rfl, by decide +kernel, rfl, by decide +kernel, by decide +kernel⟩
abbrev s_is_stripe_with_tint : Stmt := topS 20
abbrev N_is_stripe_with_tint : List Str := ["thing", "stripe", "tint"]
theorem sc_is_stripe_with_tint : FnScope N_is_stripe_with_tint ["thing"] (defScope s_is_stripe_with_tint) := ⟨rfl, rfl, rfl, by decide +kernel, rfl, by decide +kernel, by decide +kernel⟩
abbrev s_added : Stmt := topS 21
abbrev N_added : List Str := ["one", "other"]
theorem sc_added : FnScope N_added ["one", "other"] (defScope s_added) := ⟨rfl, rfl, rfl, by decide +kernel, rfl, by decide +kernel, by decide +kernel⟩
abbrev s_taken : Stmt := topS 22
abbrev N_taken : List Str := ["one", "other"]
theorem sc_taken : FnScope N_taken ["one", "other"] (defScope s_taken) := ⟨rfl, rfl, rfl, by decide +kernel, rfl, by decide +kernel, by decide +kernel⟩
abbrev s_times : Stmt := topS 23
abbrev N_times : List Str := ["heap", "number", "stripe", "tint"]
theorem sc_times : FnScope N_times ["heap", "number"] (defScope s_times) := ⟨rfl, rfl, rfl, by decide +kernel, rfl, by decide +kernel, by decide +kernel⟩
abbrev s_has_breadth : Stmt := topS 24
abbrev N_has_breadth : List Str := ["heap", "breadth", "stripe", "_"]
theorem sc_has_breadth : FnScope N_has_breadth ["heap", "breadth"] (defScope s_has_breadth) := ⟨rfl, rfl, rfl, by decide +kernel, rfl, by decide +kernel, by decide +kernel⟩
abbrev s_opposed : Stmt := topS 25
abbrev N_opposed : List Str := ["pairs", "stripe", "tint"]
theorem sc_opposed : FnScope N_opposed ["pairs"] (defScope s_opposed) := ⟨rfl, rfl, rfl, by decide +kernel, rfl, by decide +kernel, by decide +kernel⟩
abbrev s_gathered : Stmt := topS 26
abbrev N_gathered : List Str := ["pairs", "tints", "stripe", "tint"]
theorem sc_gathered : FnScope N_gathered ["pairs"] (defScope s_gathered) := ⟨rfl, rfl, rfl, by decide +kernel, rfl, by decide +kernel, by decide +kernel⟩
abbrev s_check_heap : Stmt := topS 27
abbrev N_check_heap : List Str := ["thing"]
theorem sc_check_heap : FnScope N_check_heap ["thing"] (defScope s_check_heap) := ⟨rfl, rfl, rfl, by decide +kernel, rfl, by decide +kernel, by decide +kernel⟩
abbrev s_check_heaps : Stmt := topS 28
abbrev N_check_heaps : List Str := ["one", "other"]
theorem sc_check_heaps : FnScope N_check_heaps ["one", "other"] (defScope s_check_heaps) := ⟨rfl, rfl, rfl, by decide +kernel, rfl, by decide +kernel, by decide +kernel⟩
abbrev s_breadth_of_heap : Stmt := topS 29
abbrev N_breadth_of_heap : List Str := ["heap"]
theorem sc_breadth_of_heap : FnScope N_breadth_of_heap ["heap"] (defScope s_breadth_of_heap) := ⟨rfl, rfl, rfl, by decide +kernel, rfl, by decide +kernel, by decide +kernel⟩
abbrev s__law_deck : Stmt := topS 31
abbrev N__law_deck : List Str := ["_law_script", "_law_mixed", "_law_cell"]
theorem sc__law_deck : FnScope N__law_deck ["_law_script"] (defScope s__law_deck) := ⟨rfl, rfl, rfl, by decide +kernel, rfl, by decide +kernel, by decide +kernel⟩
abbrev s__law_draw : Stmt := topS 32
abbrev N__law_draw : List Str := ["_law_deck_here", "_law_many", "_law_number", "_law_cell"]
theorem sc__law_draw : FnScope N__law_draw ["_law_deck_here", "_law_many"] (defScope s__law_draw) := ⟨rfl, rfl, rfl, by decide +kernel, rfl, by decide +kernel, by decide +kernel⟩
abbrev s__law_pick : Stmt := topS 33
abbrev N__law_pick : List Str := ["_law_deck_here", "_law_some"]
theorem sc__law_pick : FnScope N__law_pick ["_law_deck_here", "_law_some"] (defScope s__law_pick) := ⟨rfl, rfl, rfl, by decide +kernel, rfl, by decide +kernel, by decide +kernel⟩
abbrev s__law_great : Stmt := topS 34
abbrev N__law_great : List Str := ["_law_deck_here", "_law_top", "_law_found", "_law_room"]
theorem sc__law_great : FnScope N__law_great ["_law_deck_here", "_law_top"] (defScope s__law_great) := ⟨rfl, rfl, rfl, by decide +kernel, rfl, by decide +kernel, by decide +kernel⟩
abbrev s__law_signed : Stmt := topS 35
abbrev N__law_signed : List Str := ["_law_deck_here", "_law_top", "_law_way", "_law_number"]
theorem sc__law_signed : FnScope N__law_signed ["_law_deck_here", "_law_top"] (defScope s__law_signed) := ⟨rfl, rfl, rfl, by decide +kernel, rfl, by decide +kernel, by decide +kernel⟩
abbrev s__law_powers : Stmt := topS 36
abbrev N__law_powers : List Str := ["_law_deck_here", "_law_top", "_law_most", "_law_some", "_law_product_here", "_law_rest", "_law_found", "_law_way", "_law_turn", "_law_p", "_law_pairs", "_law_q"]
theorem sc__law_powers : FnScope N__law_powers ["_law_deck_here", "_law_top", "_law_most"] (defScope s__law_powers) := ⟨rfl, rfl, rfl, by decide +kernel, rfl, by decide +kernel, by decide +kernel⟩
abbrev s__law_product : Stmt := topS 37
abbrev N__law_product : List Str := ["_law_some", "_law_found", "_law_x"]
theorem sc__law_product : FnScope N__law_product ["_law_some"] (defScope s__law_product) := ⟨rfl, rfl, rfl, by decide +kernel, rfl, by decide +kernel, by decide +kernel⟩
abbrev s__law_numbers : Stmt := topS 38
abbrev N__law_numbers : List Str := ["_law_deck_here", "_law_powers_here", "_law_m", "_law_d", "_law_found", "_law_at", "_law_way", "_law_number", "_law_p", "_law_q", "_law_x"]
theorem sc__law_numbers : FnScope N__law_numbers ["_law_deck_here", "_law_powers_here", "_law_m", "_law_d"] (defScope s__law_numbers) := ⟨rfl, rfl, rfl, by decide +kernel, rfl, by decide +kernel, by decide +kernel⟩
abbrev s__law_unit : Stmt := topS 39
abbrev N__law_unit : List Str := ["_law_deck_here", "_law_powers_here", "_law_m", "_law_number", "_law_p", "_law_q"]
theorem sc__law_unit : FnScope N__law_unit ["_law_deck_here", "_law_powers_here", "_law_m"] (defScope s__law_unit) := ⟨rfl, rfl, rfl, by decide +kernel, rfl, by decide +kernel, by decide +kernel⟩
abbrev s__law_stripe : Stmt := topS 40
abbrev N__law_stripe : List Str := ["_law_deck_here", "_law_d", "_law_powers_here", "_law_m", "_law_u", "_law_c", "_law_r", "_law_p", "_law_q", "_law_a"]
theorem sc__law_stripe : FnScope N__law_stripe ["_law_deck_here", "_law_d"] (defScope s__law_stripe) := ⟨rfl, rfl, rfl, by decide +kernel, rfl, by decide +kernel, by decide +kernel⟩
abbrev s__law_drawn : Stmt := topS 41
abbrev N__law_drawn : List Str := ["_law_deck_here", "_law_d", "_law_one", "_law_other", "_law_most", "_law_turn", "_law_way", "_law_pair", "_law_tint", "_law_near"]
theorem sc__law_drawn : FnScope N__law_drawn ["_law_deck_here", "_law_d"] (defScope s__law_drawn) := ⟨rfl, rfl, rfl, by decide +kernel, rfl, by decide +kernel, by decide +kernel⟩
abbrev s__law_heap : Stmt := topS 42
abbrev N__law_heap : List Str := ["_law_tints", "_law_stripe_here"]
theorem sc__law_heap : FnScope N__law_heap ["_law_tints"] (defScope s__law_heap) := ⟨rfl, rfl, rfl, by decide +kernel, rfl, by decide +kernel, by decide +kernel⟩
abbrev s__law_summed : Stmt := topS 43
abbrev N__law_summed : List Str := ["_law_one", "_law_other", "_law_sign", "_law_found", "_law_stripe_here"]
theorem sc__law_summed : FnScope N__law_summed ["_law_one", "_law_other", "_law_sign"] (defScope s__law_summed) := ⟨rfl, rfl, rfl, by decide +kernel, rfl, by decide +kernel, by decide +kernel⟩
abbrev s__law_are_due : Stmt := topS 44
abbrev N__law_are_due : List Str := ["_law_one", "_law_other", "_law_heap_here", "_law_near", "_law_plus", "_law_minus", "_law_told", "_law_back"]
theorem sc__law_are_due : FnScope N__law_are_due ["_law_one", "_law_other"] (defScope s__law_are_due) := ⟨rfl, rfl, rfl, by decide +kernel, rfl, by decide +kernel, by decide +kernel⟩
abbrev s__law_are_multiples : Stmt := topS 45
abbrev N__law_are_multiples : List Str := ["_law_deck_here", "_law_one", "_law_heap_here", "_law_number", "_law_due", "_law_near", "_law_same", "_law_stripe_here", "_law_tint"]
theorem sc__law_are_multiples : FnScope N__law_are_multiples ["_law_deck_here", "_law_one"] (defScope s__law_are_multiples) := ⟨rfl, rfl, rfl, by decide +kernel, rfl, by decide +kernel, by decide +kernel⟩
abbrev s_law : Stmt := topS 46
abbrev N_law : List Str := ["_law_script", "_law_deck_here", "_law_d", "_law_one", "_law_other"]
theorem sc_law : FnScope N_law ["_law_script"] (defScope s_law) := ⟨rfl, rfl, rfl, by decide +kernel, rfl, by decide +kernel, by decide +kernel⟩
def C_PRIMES : List Int := [2, 3, 5, 7, 11, 13, 17, 19, 23, 29]
def gkb_added_0_other_one : List Value → List Value → List Value := fun (us ws : List Value) => match us, ws with | [], [k0, k1] => [k1, k0] | _, _ => []
def gkb_added_0_other_oneV : List V → List V → List V := fun (us ws : List V) => match us, ws with | [], [k0, k1] => [k1, k0] | _, _ => []
def gkb_taken_0_other_one : List Value → List Value → List Value := fun (us ws : List Value) => match us, ws with | [], [k0, k1] => [k1, k0] | _, _ => []
def gkb_taken_0_other_oneV : List V → List V → List V := fun (us ws : List V) => match us, ws with | [], [k0, k1] => [k1, k0] | _, _ => []
def gkb_times_0_number_heap : List Value → List Value → List Value := fun (us ws : List Value) => match us, ws with | [], [k0, k1] => [k1, k0] | _, _ => []
def gkb_times_0_number_heapV : List V → List V → List V := fun (us ws : List V) => match us, ws with | [], [k0, k1] => [k1, k0] | _, _ => []
/-- what the top has made -/
structure Txt (K : PySem.W.Frag) (mg : Str → Option Value) where
  a_is_integer : Addr
  d_is_integer : FuncData
  F_is_integer : Fun K "is_integer" "is_integer" s_is_integer a_is_integer d_is_integer
  m_is_integer : mg "is_integer" = some (.ref a_is_integer)
  b_is_integer : Binds K d_is_integer ["thing"] []
  a_primes_of : Addr
  d_primes_of : FuncData
  F_primes_of : Fun K "primes_of" "primes_of" s_primes_of a_primes_of d_primes_of
  m_primes_of : mg "primes_of" = some (.ref a_primes_of)
  b_primes_of : Binds K d_primes_of ["number"] []
  a_part_at : Addr
  d_part_at : FuncData
  F_part_at : Fun K "part_at" "part_at" s_part_at a_part_at d_part_at
  m_part_at : mg "part_at" = some (.ref a_part_at)
  b_part_at : Binds K d_part_at ["number", "p"] []
  a_common_divisor : Addr
  d_common_divisor : FuncData
  F_common_divisor : Fun K "common_divisor" "common_divisor" s_common_divisor a_common_divisor d_common_divisor
  m_common_divisor : mg "common_divisor" = some (.ref a_common_divisor)
  b_common_divisor : Binds K d_common_divisor ["number", "others"] []
  a_is_period : Addr
  d_is_period : FuncData
  F_is_period : Fun K "is_period" "is_period" s_is_period a_is_period d_is_period
  m_is_period : mg "is_period" = some (.ref a_is_period)
  b_is_period : Binds K d_is_period ["thing"] []
  a_is_cell : Addr
  d_is_cell : FuncData
  F_is_cell : Fun K "is_cell" "is_cell" s_is_cell a_is_cell d_is_cell
  m_is_cell : mg "is_cell" = some (.ref a_is_cell)
  b_is_cell : Binds K d_is_cell ["thing"] []
  a_is_stripe : Addr
  d_is_stripe : FuncData
  F_is_stripe : Fun K "is_stripe" "is_stripe" s_is_stripe a_is_stripe d_is_stripe
  m_is_stripe : mg "is_stripe" = some (.ref a_is_stripe)
  b_is_stripe : Binds K d_is_stripe ["thing"] []
  a_is_heap : Addr
  d_is_heap : FuncData
  F_is_heap : Fun K "is_heap" "is_heap" s_is_heap a_is_heap d_is_heap
  m_is_heap : mg "is_heap" = some (.ref a_is_heap)
  b_is_heap : Binds K d_is_heap ["thing"] []
  a_is_stripe_with_tint : Addr
  d_is_stripe_with_tint : FuncData
  F_is_stripe_with_tint : Fun K "is_stripe_with_tint" "is_stripe_with_tint" s_is_stripe_with_tint a_is_stripe_with_tint d_is_stripe_with_tint
  m_is_stripe_with_tint : mg "is_stripe_with_tint" = some (.ref a_is_stripe_with_tint)
  b_is_stripe_with_tint : Binds K d_is_stripe_with_tint ["thing"] []
  a_added : Addr
  d_added : FuncData
  F_added : Fun K "added" "added" s_added a_added d_added
  m_added : mg "added" = some (.ref a_added)
  b_added : Binds K d_added ["one", "other"] []
  a_taken : Addr
  d_taken : FuncData
  F_taken : Fun K "taken" "taken" s_taken a_taken d_taken
  m_taken : mg "taken" = some (.ref a_taken)
  b_taken : Binds K d_taken ["one", "other"] []
  a_times : Addr
  d_times : FuncData
  F_times : Fun K "times" "times" s_times a_times d_times
  m_times : mg "times" = some (.ref a_times)
  b_times : Binds K d_times ["heap", "number"] []
  a_has_breadth : Addr
  d_has_breadth : FuncData
  F_has_breadth : Fun K "has_breadth" "has_breadth" s_has_breadth a_has_breadth d_has_breadth
  m_has_breadth : mg "has_breadth" = some (.ref a_has_breadth)
  b_has_breadth : Binds K d_has_breadth ["heap", "breadth"] []
  a_opposed : Addr
  d_opposed : FuncData
  F_opposed : Fun K "opposed" "opposed" s_opposed a_opposed d_opposed
  m_opposed : mg "opposed" = some (.ref a_opposed)
  b_opposed : Binds K d_opposed ["pairs"] []
  a_gathered : Addr
  d_gathered : FuncData
  F_gathered : Fun K "gathered" "gathered" s_gathered a_gathered d_gathered
  m_gathered : mg "gathered" = some (.ref a_gathered)
  b_gathered : Binds K d_gathered ["pairs"] []
  a_check_heap : Addr
  d_check_heap : FuncData
  F_check_heap : Fun K "check_heap" "check_heap" s_check_heap a_check_heap d_check_heap
  m_check_heap : mg "check_heap" = some (.ref a_check_heap)
  b_check_heap : Binds K d_check_heap ["thing"] []
  a_check_heaps : Addr
  d_check_heaps : FuncData
  F_check_heaps : Fun K "check_heaps" "check_heaps" s_check_heaps a_check_heaps d_check_heaps
  m_check_heaps : mg "check_heaps" = some (.ref a_check_heaps)
  b_check_heaps : Binds K d_check_heaps ["one", "other"] []
  a_breadth_of_heap : Addr
  d_breadth_of_heap : FuncData
  F_breadth_of_heap : Fun K "breadth_of_heap" "breadth_of_heap" s_breadth_of_heap a_breadth_of_heap d_breadth_of_heap
  m_breadth_of_heap : mg "breadth_of_heap" = some (.ref a_breadth_of_heap)
  b_breadth_of_heap : Binds K d_breadth_of_heap ["heap"] []
  a__law_deck : Addr
  d__law_deck : FuncData
  F__law_deck : Fun K "_law_deck" "_law_deck" s__law_deck a__law_deck d__law_deck
  m__law_deck : mg "_law_deck" = some (.ref a__law_deck)
  b__law_deck : Binds K d__law_deck ["_law_script"] []
  a__law_draw : Addr
  d__law_draw : FuncData
  F__law_draw : Fun K "_law_draw" "_law_draw" s__law_draw a__law_draw d__law_draw
  m__law_draw : mg "_law_draw" = some (.ref a__law_draw)
  b__law_draw : Binds K d__law_draw ["_law_deck_here", "_law_many"] []
  a__law_pick : Addr
  d__law_pick : FuncData
  F__law_pick : Fun K "_law_pick" "_law_pick" s__law_pick a__law_pick d__law_pick
  m__law_pick : mg "_law_pick" = some (.ref a__law_pick)
  b__law_pick : Binds K d__law_pick ["_law_deck_here", "_law_some"] []
  a__law_great : Addr
  d__law_great : FuncData
  F__law_great : Fun K "_law_great" "_law_great" s__law_great a__law_great d__law_great
  m__law_great : mg "_law_great" = some (.ref a__law_great)
  b__law_great : Binds K d__law_great ["_law_deck_here", "_law_top"] []
  a__law_signed : Addr
  d__law_signed : FuncData
  F__law_signed : Fun K "_law_signed" "_law_signed" s__law_signed a__law_signed d__law_signed
  m__law_signed : mg "_law_signed" = some (.ref a__law_signed)
  b__law_signed : Binds K d__law_signed ["_law_deck_here", "_law_top"] []
  a__law_powers : Addr
  d__law_powers : FuncData
  F__law_powers : Fun K "_law_powers" "_law_powers" s__law_powers a__law_powers d__law_powers
  m__law_powers : mg "_law_powers" = some (.ref a__law_powers)
  b__law_powers : Binds K d__law_powers ["_law_deck_here", "_law_top", "_law_most"] []
  a__law_product : Addr
  d__law_product : FuncData
  F__law_product : Fun K "_law_product" "_law_product" s__law_product a__law_product d__law_product
  m__law_product : mg "_law_product" = some (.ref a__law_product)
  b__law_product : Binds K d__law_product ["_law_some"] []
  a__law_numbers : Addr
  d__law_numbers : FuncData
  F__law_numbers : Fun K "_law_numbers" "_law_numbers" s__law_numbers a__law_numbers d__law_numbers
  m__law_numbers : mg "_law_numbers" = some (.ref a__law_numbers)
  b__law_numbers : Binds K d__law_numbers ["_law_deck_here", "_law_powers_here", "_law_m", "_law_d"] []
  a__law_unit : Addr
  d__law_unit : FuncData
  F__law_unit : Fun K "_law_unit" "_law_unit" s__law_unit a__law_unit d__law_unit
  m__law_unit : mg "_law_unit" = some (.ref a__law_unit)
  b__law_unit : Binds K d__law_unit ["_law_deck_here", "_law_powers_here", "_law_m"] []
  a__law_stripe : Addr
  d__law_stripe : FuncData
  F__law_stripe : Fun K "_law_stripe" "_law_stripe" s__law_stripe a__law_stripe d__law_stripe
  m__law_stripe : mg "_law_stripe" = some (.ref a__law_stripe)
  b__law_stripe : Binds K d__law_stripe ["_law_deck_here", "_law_d"] []
  a__law_drawn : Addr
  d__law_drawn : FuncData
  F__law_drawn : Fun K "_law_drawn" "_law_drawn" s__law_drawn a__law_drawn d__law_drawn
  m__law_drawn : mg "_law_drawn" = some (.ref a__law_drawn)
  b__law_drawn : Binds K d__law_drawn ["_law_deck_here", "_law_d"] []
  a__law_heap : Addr
  d__law_heap : FuncData
  F__law_heap : Fun K "_law_heap" "_law_heap" s__law_heap a__law_heap d__law_heap
  m__law_heap : mg "_law_heap" = some (.ref a__law_heap)
  b__law_heap : Binds K d__law_heap ["_law_tints"] []
  a__law_summed : Addr
  d__law_summed : FuncData
  F__law_summed : Fun K "_law_summed" "_law_summed" s__law_summed a__law_summed d__law_summed
  m__law_summed : mg "_law_summed" = some (.ref a__law_summed)
  b__law_summed : Binds K d__law_summed ["_law_one", "_law_other", "_law_sign"] []
  a__law_are_due : Addr
  d__law_are_due : FuncData
  F__law_are_due : Fun K "_law_are_due" "_law_are_due" s__law_are_due a__law_are_due d__law_are_due
  m__law_are_due : mg "_law_are_due" = some (.ref a__law_are_due)
  b__law_are_due : Binds K d__law_are_due ["_law_one", "_law_other"] []
  a__law_are_multiples : Addr
  d__law_are_multiples : FuncData
  F__law_are_multiples : Fun K "_law_are_multiples" "_law_are_multiples" s__law_are_multiples a__law_are_multiples d__law_are_multiples
  m__law_are_multiples : mg "_law_are_multiples" = some (.ref a__law_are_multiples)
  b__law_are_multiples : Binds K d__law_are_multiples ["_law_deck_here", "_law_one"] []
  a_law : Addr
  d_law : FuncData
  F_law : Fun K "law" "law" s_law a_law d_law
  m_law : mg "law" = some (.ref a_law)
  b_law : Binds K d_law ["_law_script"] []
  n_all : mg "all" = none
  n_bool : mg "bool" = none
  n_int : mg "int" = none
  n_isinstance : mg "isinstance" = none
  n_len : mg "len" = none
  n_list : mg "list" = none
  n_max : mg "max" = none
  n_range : mg "range" = none
  n_repr : mg "repr" = none
  n_sorted : mg "sorted" = none
  n_tuple : mg "tuple" = none
  n_zip : mg "zip" = none
  kb_added_0_other_one : KBinds K d_added ["one", "other"] ["other", "one"] gkb_added_0_other_one gkb_added_0_other_oneV
  kb_taken_0_other_one : KBinds K d_taken ["one", "other"] ["other", "one"] gkb_taken_0_other_one gkb_taken_0_other_oneV
  kb_times_0_number_heap : KBinds K d_times ["heap", "number"] ["number", "heap"] gkb_times_0_number_heap gkb_times_0_number_heapV
  m_gcd : mg "gcd" = some (.builtin "math.gcd")
  a_PRIMES : Addr
  m_PRIMES : mg "PRIMES" = some (.ref a_PRIMES)
  t_PRIMES : ∀ H : Hp, SqT K H a_PRIMES (C_PRIMES.map V.int)
  m_MOST_BREADTH : ∃ t, mg "MOST_BREADTH" = some (.int 3 t)
  m_MOST_PRIMES_MULTIPLIED : ∃ t, mg "MOST_PRIMES_MULTIPLIED" = some (.int 1000 t)
section
variable {K : PySem.W.Frag} {X : Cx} {x : Str} {pos : Pos}
theorem g_PRIMES (T : Txt X.K X.mg) (hg : Gl X "PRIMES") : PE X (.Name "PRIMES" pos) (tC (.ref T.a_PRIMES)) := pe_glob hg T.m_PRIMES rfl
theorem g_MOST_BREADTH (T : Txt X.K X.mg) (hg : Gl X "MOST_BREADTH") : PE X (.Name "MOST_BREADTH" pos) (tC (.int 3)) := by
  obtain ⟨t, e⟩ := T.m_MOST_BREADTH
  exact pe_glob hg e ⟨t, rfl⟩
theorem g_MOST_PRIMES_MULTIPLIED (T : Txt X.K X.mg) (hg : Gl X "MOST_PRIMES_MULTIPLIED") : PE X (.Name "MOST_PRIMES_MULTIPLIED" pos) (tC (.int 1000)) := by
  obtain ⟨t, e⟩ := T.m_MOST_PRIMES_MULTIPLIED
  exact pe_glob hg e ⟨t, rfl⟩
theorem v_int (T : Txt X.K X.mg) (hg : Gl X "int") : PE X (.Name "int" pos) (tC (.ty "int")) := pe_bltn hg T.n_int (by decide +kernel) rfl
theorem v_bool (T : Txt X.K X.mg) (hg : Gl X "bool") : PE X (.Name "bool" pos) (tC (.ty "bool")) := pe_bltn hg T.n_bool (by decide +kernel) rfl
theorem v_tuple (T : Txt X.K X.mg) (hg : Gl X "tuple") : PE X (.Name "tuple" pos) (tC (.ty "tuple")) := pe_bltn hg T.n_tuple (by decide +kernel) rfl
theorem v_list (T : Txt X.K X.mg) (hg : Gl X "list") : PE X (.Name "list" pos) (tC (.ty "list")) := pe_bltn hg T.n_list (by decide +kernel) rfl
end

def gkb_added_0_other_oneA : List AV → List AV → List AV := fun (us ws : List AV) => match us, ws with | [], [k0, k1] => [k1, k0] | _, _ => []
theorem pkb_added_0_other_one : PV.Places gkb_added_0_other_oneV gkb_added_0_other_oneA := by
  intro R vs as ws bs h1 h2
  unfold gkb_added_0_other_oneV gkb_added_0_other_oneA
  cases h1 with
  | nil =>
    cases h2 with
    | nil => exact .nil
    | cons k0 h2 =>
      cases h2 with
      | nil => exact .nil
      | cons k1 h2 =>
        cases h2 with
        | nil =>
          exact .cons k1 (.cons k0 (.nil))
        | cons _ _ => exact .nil
  | cons _ _ => exact .nil
def gkb_taken_0_other_oneA : List AV → List AV → List AV := fun (us ws : List AV) => match us, ws with | [], [k0, k1] => [k1, k0] | _, _ => []
theorem pkb_taken_0_other_one : PV.Places gkb_taken_0_other_oneV gkb_taken_0_other_oneA := by
  intro R vs as ws bs h1 h2
  unfold gkb_taken_0_other_oneV gkb_taken_0_other_oneA
  cases h1 with
  | nil =>
    cases h2 with
    | nil => exact .nil
    | cons k0 h2 =>
      cases h2 with
      | nil => exact .nil
      | cons k1 h2 =>
        cases h2 with
        | nil =>
          exact .cons k1 (.cons k0 (.nil))
        | cons _ _ => exact .nil
  | cons _ _ => exact .nil
def gkb_times_0_number_heapA : List AV → List AV → List AV := fun (us ws : List AV) => match us, ws with | [], [k0, k1] => [k1, k0] | _, _ => []
theorem pkb_times_0_number_heap : PV.Places gkb_times_0_number_heapV gkb_times_0_number_heapA := by
  intro R vs as ws bs h1 h2
  unfold gkb_times_0_number_heapV gkb_times_0_number_heapA
  cases h1 with
  | nil =>
    cases h2 with
    | nil => exact .nil
    | cons k0 h2 =>
      cases h2 with
      | nil => exact .nil
      | cons k1 h2 =>
        cases h2 with
        | nil =>
          exact .cons k1 (.cons k0 (.nil))
        | cons _ _ => exact .nil
  | cons _ _ => exact .nil
end KL
namespace KL
open PySem PySem.Spec PyProof.Rows L2 RZ StX SrtO Kw KM PV
theorem dp_ints {K : PySem.W.Frag} {H : Hp} : ∀ cs : List Int, DpAll K H (cs.map V.int) (cs.map PyData.int)
  | [] => .nil
  | c :: r => .cons (.int c) (dp_ints r)
section
variable {P : Program} {w : World} {K : PySem.W.Frag} {mg : Str → Option Value} {base : Heap}
theorem od__law_deck (T : Txt K mg) : FnOk P w K mg base CX0 1 T.a__law_deck T.d__law_deck ["_law_script"] (sp_deck K) := by
  refine T.F__law_deck.ok sc__law_deck (fun vs H Q E h => ?_) (fun cdv A outer s H vs Q E hr h => ?_)
  · obtain ⟨a, ns, rfl, _⟩ := h
    rfl
  obtain ⟨a, ns, rfl, hs, h63, q⟩ := h
  refine ⟨_, pss_cons (ps_set (i := 1) sc__law_deck.nd rfl (Or.inl rfl) pe_int)
    (pss_cons (ps_for PassesOwn.never rfl (pi_list (pe_slice sl_list (pv 0) po_none (po_some pe_int))) (pg_name (i := 2) sc__law_deck.nd rfl (Or.inl rfl)) (pss_one (ps_set (i := 1) sc__law_deck.nd rfl (Or.inl rfl) (pe_op op_mod (pe_callTy call_int1 (by rfl) T.n_int (by decide +kernel) (pa_cons (pe_op op_add (pe_op op_add (pe_op op_mul (pv 1) pe_int) (pe_op op_mod (pe_callTy call_int1 (by rfl) T.n_int (by decide +kernel) (pa_cons (pv 2) pa_nil)) pe_int)) pe_int) pa_nil)) pe_int))))
    (pss_one (ps_ret (pe_disp (pps_cons pe_str (pe_revL (pe_callTy call_list_of (by rfl) T.n_list (by decide +kernel) (pa_cons (pe_slice sl_list (pv 0) po_none (po_some pe_int)) pa_nil))) (pps_cons pe_str (pv 1) (pps_cons pe_str pe_int pps_nil))) (by rfl) (by rfl) (by simp) (by decide))))), ?_⟩
  have hl : (ns.map V.int).length ≤ 63 := by simpa using h63
  have hcut : cutV (ns.map V.int) none (some (63 : Int)) = ns.map V.int := cut_all (n := 63) hl
  refine ⟨_, rfl, 63, rfl, a, _, rfl, hs, fun c nc => ?_⟩
  have s1 := same_new nc (.lst (cutV (ns.map V.int) none (some 63)))
  have ec : (upd H c (.lst (cutV (ns.map V.int) none (some 63)))) c = some (.lst (ns.map V.int)) := by rw [upd_same, hcut]
  generalize hH1 : upd H c (.lst (cutV (ns.map V.int) none (some 63))) = H1 at s1 ec
  refine ⟨c, rfl, ⟨_, SqL.of ec⟩, for_list (xs := ns.map V.int) (fun i σ H' => ∃ (m : Int) (z : Option V), σ = [some (.ref a), some (.int m), z] ∧ H1 = H') ⟨_, none, rfl, rfl⟩ ?_ ?_ ?_⟩
  · rintro i σ H' _ ⟨m, z, rfl, rfl⟩
    exact SqL.of ec
  · rintro i x σ H' hx ⟨m, z, rfl, rfl⟩
    rw [List.getElem?_map] at hx
    obtain ⟨v, hv, rfl⟩ := Option.map_eq_some_iff.mp hx
    refine ⟨_, rfl, _, _, rfl, rfl, .inr (by decide), _, rfl, .inl ⟨_, rfl, _, _, rfl, rfl, (show (0 : Int) < 2147483629 by decide), _, _, rfl, rfl, _, _, rfl, rfl, .inl ⟨_, rfl, _, _, rfl, rfl, (show (0 : Int) < 2147483587 by decide), ?_⟩⟩⟩
    exact ⟨_, _, rfl, rfl⟩
  · rintro σ H' ⟨m, z, rfl, rfl⟩
    intro d nd
    refine ⟨_, rfl, 63, rfl, a, _, rfl, (same_new nd _).seq (s1.seq hs), fun e ne => ?_⟩
    have s2 := (s1.trans (same_new nd (.dK []))).trans (same_new ne (.lst (cutV (ns.map V.int) none (some 63))))
    refine ⟨e, _, rfl, .inl (SqL.of upd_same), fun f nf => ?_⟩
    have s3 := s2.trans (same_new nf (.lst (cutV (ns.map V.int) none (some 63))))
    refine ⟨f, _, rfl, SqL.of upd_same, fun l nl => ?_⟩
    have s4 := s3.trans (same_new nl (.lst (cutV (ns.map V.int) none (some 63)).reverse))
    refine ⟨_, rfl, ?_⟩
    have nd4 : d ≠ l := fun z => by
      subst z
      have q1 : (upd (upd (upd H1 d (.dK [])) e (.lst (cutV (ns.map V.int) none (some 63)))) f (.lst (cutV (ns.map V.int) none (some 63)))) d = some (.dK []) :=
        (same_new nf _) _ _ ((same_new ne _) _ _ upd_same)
      rw [q1] at nl
      cases nl
    have ed : (upd (upd (upd (upd H1 d (.dK [])) e (.lst (cutV (ns.map V.int) none (some 63)))) f (.lst (cutV (ns.map V.int) none (some 63)))) l (.lst (cutV (ns.map V.int) none (some 63)).reverse)) d = some (.dK []) :=
      (same_new nl _) _ _ ((same_new nf _) _ _ ((same_new ne _) _ _ upd_same))
    have nH : H d = none := s1.free nd
    refine ⟨ed, deckV l m 0, rfl, by show 3 ≤ 15; decide, ?_⟩
    refine q d l _ (same_upd2 s4 nH) nH (s3.free nl) ⟨m, 0, ns.reverse, ?_, ?_, by simpa using h63⟩
    · rw [upd_same]
      rfl
    · rw [upd_ne nd4.symm, upd_same, hcut, List.map_reverse]
theorem cd__law_deck {X : Cx} {p pos : Pos} {e : Expr} {es : List Expr} {t : TA} (T : Txt K mg) (hr : Room 1 X.A) (ha : PA X (e :: es) t) (hg : Gl X "_law_deck" := by rfl)
    (he : starEach (e :: es) X.env = (false, eval e X.env) :: starEach es X.env := by rfl) (hpl : (backTo pos (starEach es X.env)).any (·.1) = false := by rfl) (hK : X.K = K := by rfl) (hmg : X.mg = mg := by rfl) :
    PE X (.Call (.Name "_law_deck" p) (e :: es) [] pos) (tCall (sp_deck K) [] E0 t) := by
  subst hK hmg
  exact pe_call (od__law_deck T) hr hg T.m__law_deck T.F__law_deck.kp T.b__law_deck .nil pass0 ha (by decide) he hpl
theorem od__law_draw (T : Txt K mg) : FnOk P w K mg base CX0 1 T.a__law_draw T.d__law_draw ["_law_deck_here", "_law_many"] sp_drawOld := by
  refine T.F__law_draw.ok sc__law_draw (fun vs H Q E h => ?_) (fun cdv A outer s H vs Q E hr h => ?_)
  · obtain ⟨d, l, many, rfl, _⟩ := h
    rfl
  obtain ⟨d, l, many, rfl, hD, h1, hb, q⟩ := h
  refine ⟨_, pss_cons (ps_dput (hu_of hr) (pv 0) pe_str (pe_op op_add (pe_dget (hu_of hr) (pv 0) pe_str (fun _ _ => rfl)) pe_int) rfl)
    (pss_cons (ps_set (i := 2) sc__law_draw.nd rfl (Or.inl rfl) (pe_op op_add (pe_dget (hu_of hr) (pv 0) pe_str (fun _ _ => rfl)) (pe_op op_mul pe_int (pe_dget (hu_of hr) (pv 0) pe_str (fun _ _ => rfl)))))
    (Evl.pss_cut (ps_if (pt_cmpR (op_neD hr.units) (pe_dget (hu_of hr) (pv 0) pe_str (fun _ _ => rfl)) (pe_lst pa_nil) (nomark _)) (pss_cons (ps_set (i := 3) sc__law_draw.nd rfl (Or.inl rfl) (pe_bm0 PySem.F.plainAttrs_list PySem.F.slot_list_pop PySem.F.type_list_pop mt_pop (pe_dget (hu_of hr) (pv 0) pe_str (fun _ _ => rfl))))
        (pss_cons (ps_if (pt_cmpR op_ge (pv 3) (pe_op op_pow pe_int pe_int) (nomark _)) (pss_cons (ps_expr (pe_bm PySem.F.plainAttrs_list PySem.F.slot_list_append PySem.F.type_list_append mt_append (pe_dget (hu_of hr) (pv 0) pe_str (fun _ _ => rfl)) (pa_cons (pe_op op_fdivW (pv 3) (pe_callB (call_max2 rfl) (by rfl) T.n_max (by decide +kernel) (pa_cons pe_int (pa_cons (pv 1) pa_nil)))) pa_nil)))
            (pss_one (ps_ret (pe_op op_mod (pe_callTy call_int1 (by rfl) T.n_int (by decide +kernel) (pa_cons (pv 3) pa_nil)) (pv 1))))) pss_nil)
        (pss_one (ps_set (i := 2) sc__law_draw.nd rfl (Or.inl rfl) (pe_op op_add (pv 2) (pe_op op_mod (pe_callTy call_int1 (by rfl) T.n_int (by decide +kernel) (pa_cons (pv 3) pa_nil)) pe_int)))))) pss_nil)
    (pss_cons (ps_set (i := 2) sc__law_draw.nd rfl (Or.inl rfl) (pe_op op_mod (pe_callTy call_int1 (by rfl) T.n_int (by decide +kernel) (pa_cons (pe_op op_add (pe_op op_mul (pv 2) pe_int) pe_int) pa_nil)) pe_int))
    (pss_cons (ps_set (i := 2) sc__law_draw.nd rfl (Or.inl rfl) (pe_op op_mod (pe_callTy call_int1 (by rfl) T.n_int (by decide +kernel) (pa_cons (pe_op op_add (pe_op op_add (pe_op op_mul (pv 2) (pv 2)) (pe_op op_mul pe_int (pe_dget (hu_of hr) (pv 0) pe_str (fun _ _ => rfl)))) pe_int) pa_nil)) pe_int))
    (pss_cons (ps_set (i := 2) sc__law_draw.nd rfl (Or.inl rfl) (pe_op op_mod (pe_callTy call_int1 (by rfl) T.n_int (by decide +kernel) (pa_cons (pe_op op_mul (pv 2) pe_int) pa_nil)) pe_int))
    (pss_one (ps_ret (pe_op op_mod (pe_callTy call_int1 (by rfl) T.n_int (by decide +kernel) (pa_cons (pe_op op_fdivW (pv 2) pe_int) pa_nil)) (pv 1))))))))), ?_⟩
  have ndl := hD.ne
  have hD0 := hD
  obtain ⟨m, n, cs, e1, e2, h63⟩ := hD
  refine ⟨_, rfl, d, .int n, rfl, dk_N e1, _, _, rfl, rfl, _, rfl, d, _, rfl, dp_N e1, ?_⟩
  have f1 : (upd H d (.dK (deckV l m (n + 1)))) d = some (.dK (deckV l m (n + 1))) := upd_same
  have f2 : (upd H d (.dK (deckV l m (n + 1)))) l = some (.lst (cs.map V.int)) := by rw [upd_ne ndl.symm]; exact e2
  have fk : ∀ b o, b ≠ d → b ≠ l → H b = some o → (upd H d (.dK (deckV l m (n + 1)))) b = some o := fun b o h1 _ e => by rw [upd_ne h1]; exact e
  generalize hH1 : upd H d (.dK (deckV l m (n + 1))) = H1 at f1 f2 fk
  refine ⟨_, rfl, d, _, rfl, dk_M f1, _, rfl, d, _, rfl, dk_N f1, _, _, rfl, rfl, .inl (by decide), _, _, rfl, rfl, ?_⟩
  refine ⟨fun σ H3 => ∃ (num : Int) (z : Option V), σ = [some (.ref d), some (.int many), some (.int num), z] ∧ Stp d l H H3, ?_, ?_⟩
  · refine ⟨_, rfl, d, _, rfl, dk_C f1, (by show 0 ≤ sizeLine; exact Nat.zero_le _), fun p np => ?_⟩
    have s1 := same_new np (.lst [])
    have g1 := s1 _ _ f1
    have g2 := s1 _ _ f2
    have gk : ∀ b o, b ≠ d → b ≠ l → H b = some o → (upd H1 p (.lst [])) b = some o := fun b o h1 h2 e => s1 _ _ (fk b o h1 h2 e)
    have gp : (upd H1 p (.lst [])) p = some (.lst []) := upd_same
    generalize hH2 : upd H1 p (.lst []) = H2 at s1 g1 g2 gk gp
    refine ⟨.list (cs.map PyData.int), .list [], .lst (SqL.of g2) (dp_ints cs), .lst (SqL.of gp) .nil, shaped_ints cs, shaped_ints [], _, rfl, ?_⟩
    have snoc : cs = [] ∨ ∃ a b, cs = a ++ [b] := by
      rcases List.eq_nil_or_concat cs with e | ⟨a, b, e⟩
      · exact .inl e
      · exact .inr ⟨a, b, by rw [e, List.concat_eq_append]⟩
    rcases snoc with rfl | ⟨cs', c, rfl⟩
    · refine iteF ?_
      exact ⟨_, none, rfl, hD0, ⟨m, n + 1, [], g1, g2, by decide⟩, gk⟩
    · have hne : (!(PyData.list (List.map PyData.int (cs' ++ [c]))).eqv (PyData.list [])) = true := by
        cases cs' <;> rfl
      rw [hne]
      refine iteT ?_
      have hl : ((cs' ++ [c]).map V.int)[((cs' ++ [c]).map V.int).length - 1]? = some (.int c) := by
        simp
      have hdl : ((cs' ++ [c]).map V.int).dropLast = cs'.map V.int := by simp
      refine ⟨_, rfl, d, _, rfl, dk_C g1, .inl ⟨rfl, _, SqL.of g2⟩, l, _, _, rfl, rfl, g2, hl, ?_⟩
      rw [hdl]
      have h63' : cs'.length < 63 := by simp at h63; omega
      have i1 : (upd H2 l (.lst (cs'.map V.int))) d = some (.dK (deckV l m (n + 1))) := by rw [upd_ne ndl]; exact g1
      have i2 : (upd H2 l (.lst (cs'.map V.int))) l = some (.lst (cs'.map V.int)) := upd_same
      have ik : ∀ b o, b ≠ d → b ≠ l → H b = some o → (upd H2 l (.lst (cs'.map V.int))) b = some o := fun b o h1 h2 e => by rw [upd_ne h2]; exact gk b o h1 h2 e
      generalize hH3 : upd H2 l (.lst (cs'.map V.int)) = H3 at i1 i2 ik
      refine ⟨_, rfl, _, _, rfl, rfl, ⟨by decide, by decide, by decide⟩, _, _, rfl, rfl, _, rfl, ite2 (fun _ => ?_) (fun _ => ?_)⟩
      · refine ⟨_, rfl, d, _, rfl, dk_C i1, .inl ⟨rfl, _, SqL.of i2⟩, _, rfl, _, rfl, _, _, rfl, ?_⟩
        have mx : ∃ b : Int, (if many > 2 then many else 2) = b ∧ 0 < b ∧ Bd 2000 b := by
          by_cases c : many > 2
          · exact ⟨many, by rw [if_pos c], by omega, hb⟩
          · exact ⟨2, by rw [if_neg c], by decide, Bd.mono (a := 2) (by unfold Bd; decide) (by decide)⟩
        obtain ⟨b, eb, b0, bb⟩ := mx
        rw [eb]
        refine ⟨_, _, rfl, rfl, bb.divOk b0 (by decide) _, l, _, _, rfl, rfl, i2, ?_, ?_⟩
        · rw [List.length_map]
          exact Nat.lt_of_lt_of_le h63' (by decide)
        · refine ⟨_, rfl, .inl ⟨_, rfl, _, rfl, _, _, rfl, rfl, (show (0 : Int) < many by omega), ?_⟩⟩
          refine q _ _ (emodB _ (by omega)).1 (emodB _ (by omega)).2 ⟨hD0, ⟨m, n + 1, cs' ++ [c / b], ?_, ?_, ?_⟩, ?_⟩
          · rw [upd_ne ndl]
            exact i1
          · rw [upd_same, List.map_append]
            rfl
          · rw [List.length_append, List.length_singleton]
            omega
          · intro x o h1 h2 e
            rw [upd_ne h2]
            exact ik x o h1 h2 e
      · refine ⟨_, rfl, _, rfl, .inl ⟨_, rfl, _, _, rfl, rfl, (show (0 : Int) < 2147483629 by decide), _, _, rfl, rfl, ?_⟩⟩
        exact ⟨_, _, rfl, hD0, ⟨m, n + 1, cs', i1, i2, by omega⟩, ik⟩
  · rintro σ H3 ⟨num, z, rfl, st⟩
    obtain ⟨m', n', cs', k1, k2, _⟩ := st.post.ex
    refine ⟨_, rfl, _, _, rfl, rfl, .inr (by decide), _, _, rfl, rfl, .inl ⟨_, rfl, _, _, rfl, rfl, (show (0 : Int) < 2147483647 by decide), ?_⟩⟩
    refine ⟨_, rfl, _, rfl, _, _, rfl, rfl, .inl (mid64 _), _, rfl, d, _, rfl, dk_N k1, _, _, rfl, rfl, .inl (by decide), _, _, rfl, rfl, _, _, rfl, rfl, .inl ⟨_, rfl, _, _, rfl, rfl, (show (0 : Int) < 2147483587 by decide), ?_⟩⟩
    refine ⟨_, rfl, _, _, rfl, rfl, .inr (by decide), .inl ⟨_, rfl, _, _, rfl, rfl, (show (0 : Int) < 2147483563 by decide), ?_⟩⟩
    refine ⟨_, rfl, _, _, rfl, rfl, (Bd.divOk (b := 7) (by decide) (by show (64 : Int).natAbs < 128; decide) (by decide) _), .inl ⟨_, rfl, _, rfl, _, _, rfl, rfl, (show (0 : Int) < many by omega), ?_⟩⟩
    exact q _ H3 (emodB _ (by omega)).1 (emodB _ (by omega)).2 st
end
theorem vo__law_draw {P : Program} {w : World} {K : PySem.W.Frag} {mg : Str → Option Value} {base : Heap} (T : Txt K mg) : GFn P w K mg base 1 T.a__law_draw T.d__law_draw ["_law_deck_here", "_law_many"] (spV K w vp__law_draw) := draw_of (gfn (od__law_draw T))
theorem vc__law_draw {K : PySem.W.Frag} {mg : Str → Option Value} {X : Cx} {p pos : Pos} {e : Expr} {es : List Expr} {po : WAO} (T : Txt K mg) (hq : Quiet X.A) (hr : Room 1 X.A) (ha : QAA X (e :: es) po) (hg : Gl X "_law_draw" := by rfl)
    (he : starEach (e :: es) X.env = (false, eval e X.env) :: starEach es X.env := by rfl) (hpl : (backTo pos (starEach es X.env)).any (·.1) = false := by rfl) (hK : X.K = K := by rfl) (hmg : X.mg = mg := by rfl) :
    QE X (.Call (.Name "_law_draw" p) (e :: es) [] pos) (wCall vp__law_draw po) := by
  subst hK hmg
  exact q_call (vo__law_draw T) hq hr hg T.m__law_draw T.F__law_draw.kp T.b__law_draw ha (by decide) he hpl

end KL
namespace KL
open PySem PySem.Spec PyProof.Rows L2 RZ StX SrtO Kw KM PV
/-! ### draws -/
theorem atI_get {α : Type} {ds : List α} {v : Int} (h0 : 0 ≤ v) (h1 : v < ds.length) : ∃ d, atI ds v = some d ∧ d ∈ ds := by
  obtain ⟨n, rfl⟩ := Int.eq_ofNat_of_zero_le h0
  have hn : n < ds.length := by omega
  exact ⟨ds[n], atI_nat (List.getElem?_eq_getElem hn), List.getElem_mem hn⟩
theorem optW_of' {α : Type} {o : Option α} {Q : α → Prop} {d : α} (e : o = some d) (q : Q d) : optW o Q := by subst e; exact q
theorem bd_small {b : Nat} {i : Int} (h : i.natAbs < 1073741824) (hb : 30 ≤ b) : Bd b i := Nat.lt_of_lt_of_le h (Nat.le_trans (by decide : 1073741824 ≤ 2 ^ 30) (Nat.pow_le_pow_right (by decide) hb))
theorem bd_of {b : Nat} {v n : Int} (h0 : 0 ≤ v) (h1 : v < n) (h : Bd b n) : Bd b v := Bd.le h0 (by omega) h
def vp__law_pick : PSp := fun as Q => ∃ ds : List PyData, as = [.deck, .val (.list ds)] ∧ 1 ≤ ds.length ∧ ds.length ≤ 1000 ∧ ∀ d ∈ ds, Q d
theorem vo__law_pick {P : Program} {w : World} {K : PySem.W.Frag} {mg : Str → Option Value} {base : Heap} (T : Txt K mg) : GFn P w K mg base 2 T.a__law_pick T.d__law_pick ["_law_deck_here", "_law_some"] (spV K w vp__law_pick) := by
  refine fnV T.F__law_pick sc__law_pick vp__law_pick (fun as Q h => ?_) (fun cdv A outer s H E hq hr => (qs_one (qs_ret (q_ix (qvb 1) (vc__law_draw T hq (hr.mono (by decide)) (qaa_deck 0 (qaa_v (q_B call_lenK lc_len (by rfl) T.n_len (by decide +kernel) (qab_cons (qvb 1) qab_nil)) qaa_nil))).b).b))) (fun as Q h => ?_)
  · obtain ⟨ds, rfl, h1, h2, q⟩ := h
    rfl
  obtain ⟨ds, rfl, h1, h2, q⟩ := h
  refine ⟨ds.length, rfl, by omega, bd_small (by omega) (by decide), fun v v0 v1 => ?_⟩
  obtain ⟨d, e, hd⟩ := atI_get v0 v1
  exact optW_of' e (q d hd)
theorem vc__law_pick {K : PySem.W.Frag} {mg : Str → Option Value} {X : Cx} {p pos : Pos} {e : Expr} {es : List Expr} {po : WAO} (T : Txt K mg) (hq : Quiet X.A) (hr : Room 2 X.A) (ha : QAA X (e :: es) po) (hg : Gl X "_law_pick" := by rfl)
    (he : starEach (e :: es) X.env = (false, eval e X.env) :: starEach es X.env := by rfl) (hpl : (backTo pos (starEach es X.env)).any (·.1) = false := by rfl) (hK : X.K = K := by rfl) (hmg : X.mg = mg := by rfl) :
    QE X (.Call (.Name "_law_pick" p) (e :: es) [] pos) (wCall vp__law_pick po) := by
  subst hK hmg
  exact q_call (vo__law_pick T) hq hr hg T.m__law_pick T.F__law_pick.kp T.b__law_pick ha (by decide) he hpl

def vp__law_wide : PSp := fun as Q => ∃ n : Int, as = [.deck, .val (.int n)] ∧ 1 ≤ n ∧ Bd 1500 n ∧ ∀ v : Int, 0 ≤ v → v < n → Q (.int v)
def vp__law_below : PSp := fun as Q => ∃ n : Int, as = [.deck, .val (.int n)] ∧ 1 ≤ n ∧ Bd 1500 n ∧ ∀ v : Int, 0 ≤ v → v < n → Q (.int v)
end KL
namespace KL
open PySem PySem.Spec PyProof.Rows L2 RZ StX SrtO Kw KM PV
/-! ### small numbers, data -/
abbrev intsD (cs : List Int) : List PyData := cs.map PyData.int
theorem intsD_at {cs : List Int} {i : Nat} {x : PyData} (h : (intsD cs)[i]? = some x) : ∃ c, cs[i]? = some c ∧ x = .int c := by
  rw [List.getElem?_map] at h
  obtain ⟨c, e, rfl⟩ := Option.map_eq_some_iff.mp h
  exact ⟨c, e, rfl⟩
theorem fm_ints (pr : Int → Bool) : ∀ ns : List Int, (intsD ns).filterMap (fun x => match x with | .int p => if pr p = true then some (.int p) else none | _ => none) = intsD (ns.filter pr)
  | [] => rfl
  | n :: r => by
    have ih := fm_ints pr r
    unfold intsD at ih ⊢
    rw [List.map_cons, List.filterMap_cons, List.filter_cons]
    dsimp only
    by_cases c : pr n = true
    · rw [if_pos c, if_pos c, List.map_cons]
      dsimp only
      rw [ih]
    · rw [if_neg c, if_neg c]
      exact ih
theorem prim_eq (n : Int) : PRI.filter (fun p => decide (n % p = 0)) = primesOf n := by
  refine List.filter_congr fun p hp => ?_
  have := PR_pos p hp
  rw [Int.fmod_eq_emod_of_nonneg _ (by omega)]
/-! ### is_integer -/
def isInt : PyData → Bool
  | .int _ => true
  | _ => false
def vp_is_integer : PSp := fun as Q => ∃ d, as = [.val d] ∧ Q (.bool (isInt d))
theorem vo_is_integer {P : Program} {w : World} {K : PySem.W.Frag} {mg : Str → Option Value} {base : Heap} (T : Txt K mg) : GFn P w K mg base 1 T.a_is_integer T.d_is_integer ["thing"] (spV K w vp_is_integer) := by
  refine fnV T.F_is_integer sc_is_integer vp_is_integer (fun as Q h => ?_) (fun cdv A outer s H E hq hr => (qs_one (qs_ret (q_and (q_isi kb_I (by rfl) T.n_isinstance (v_int T (by rfl)) (qvb 0)) (q_one (q_not (q_isi kb_B (by rfl) T.n_isinstance (v_bool T (by rfl)) (qvb 0))))).b))) (fun as Q h => ?_)
  · obtain ⟨d, rfl, q⟩ := h
    rfl
  obtain ⟨d, rfl, q⟩ := h
  cases d <;> exact q
theorem vc_is_integer {K : PySem.W.Frag} {mg : Str → Option Value} {X : Cx} {p pos : Pos} {e : Expr} {es : List Expr} {po : WAO} (T : Txt K mg) (hq : Quiet X.A) (hr : Room 1 X.A) (ha : QAA X (e :: es) po) (hg : Gl X "is_integer" := by rfl)
    (he : starEach (e :: es) X.env = (false, eval e X.env) :: starEach es X.env := by rfl) (hpl : (backTo pos (starEach es X.env)).any (·.1) = false := by rfl) (hK : X.K = K := by rfl) (hmg : X.mg = mg := by rfl) :
    QE X (.Call (.Name "is_integer" p) (e :: es) [] pos) (wCall vp_is_integer po) := by
  subst hK hmg
  exact q_call (vo_is_integer T) hq hr hg T.m_is_integer T.F_is_integer.kp T.b_is_integer ha (by decide) he hpl

/-! ### primes, parts -/
def vp_primes_of : PSp := fun as Q => ∃ n : Int, as = [.val (.int n)] ∧ Q (.list (intsD (primesOf n)))
theorem vo_primes_of {P : Program} {w : World} {K : PySem.W.Frag} {mg : Str → Option Value} {base : Heap} (T : Txt K mg) : GFn P w K mg base 1 T.a_primes_of T.d_primes_of ["number"] (spV K w vp_primes_of) := by
  refine fnV T.F_primes_of sc_primes_of vp_primes_of (fun as Q h => ?_) (fun cdv A outer s H E hq hr => (qs_one (qs_ret (q_lc [("p", 1)] sc_primes_of.nd (qi_seqB (qg_ints (g_PRIMES T (by rfl)) T.t_PRIMES).b) (blkOk_by (N := N_primes_of) (sc := defScope s_primes_of) (by decide +kernel)) (fun _ _ _ _ _ => (qg_name 1 sc_primes_of.nd rfl (Or.inl rfl))) (fun _ _ _ _ _ => (qts_one (qt_eq hr.units (q_mod (qvb 0) (qvb 1)).b qc_int.b))) (fun _ _ _ _ _ => (qv 1))).e.b))) (fun as Q h => ?_)
  · obtain ⟨n, rfl, q⟩ := h
    rfl
  obtain ⟨n, rfl, q⟩ := h
  refine ⟨by decide, comp_fm (fun x => match x with | .int p => if decide (n % p = 0) = true then some (.int p) else none | _ => none) (fun i x hx R r => ?_) ?_⟩
  · obtain ⟨p, hp, rfl⟩ := intsD_at (cs := PRI) hx
    have h2 := PR_pos p (List.mem_of_getElem? hp)
    refine ⟨by omega, ?_⟩
    refine ifd (fun c => ?_) (fun c => ?_)
    · dsimp only at r
      rw [if_pos (decide_eq_true c)] at r
      exact r
    · dsimp only at r
      rw [if_neg (by simpa using c)] at r
      exact r
  · have e := fm_ints (fun p => decide (n % p = 0)) PRI
    rw [prim_eq] at e
    rw [← e] at q
    exact q
theorem vc_primes_of {K : PySem.W.Frag} {mg : Str → Option Value} {X : Cx} {p pos : Pos} {e : Expr} {es : List Expr} {po : WAO} (T : Txt K mg) (hq : Quiet X.A) (hr : Room 1 X.A) (ha : QAA X (e :: es) po) (hg : Gl X "primes_of" := by rfl)
    (he : starEach (e :: es) X.env = (false, eval e X.env) :: starEach es X.env := by rfl) (hpl : (backTo pos (starEach es X.env)).any (·.1) = false := by rfl) (hK : X.K = K := by rfl) (hmg : X.mg = mg := by rfl) :
    QE X (.Call (.Name "primes_of" p) (e :: es) [] pos) (wCall vp_primes_of po) := by
  subst hK hmg
  exact q_call (vo_primes_of T) hq hr hg T.m_primes_of T.F_primes_of.kp T.b_primes_of ha (by decide) he hpl

def vp_part_at : PSp := fun as Q => ∃ n p : Nat, as = [.val (.int n), .val (.int p)] ∧ 1 ≤ n ∧ 2 ≤ p ∧ p ≤ 29 ∧ n < 2 ^ 2000 ∧ ∀ k : Nat, p ^ k ∣ n → ¬ p ^ (k + 1) ∣ n → Q (.int ((p ^ k : Nat) : Int))
theorem vo_part_at {P : Program} {w : World} {K : PySem.W.Frag} {mg : Str → Option Value} {base : Heap} (T : Txt K mg) : GFn P w K mg base 1 T.a_part_at T.d_part_at ["number", "p"] (spV K w vp_part_at) := by
  refine fnV T.F_part_at sc_part_at vp_part_at (fun as Q h => ?_) (fun cdv A outer s H E hq hr => (qs_cons (qs_set 2 sc_part_at.nd rfl (Or.inl rfl) qc_int)
    (qs_cons (qs_while PassesOwn.never (qt_eq hr.units (q_mod (qvb 0) (qvb 1)).b qc_int.b) (qs_cons (qs_aug 0 sc_part_at.nd rfl (Or.inl rfl) (qvb 1) ip_fdivW lo_int)
        (qs_one (qs_aug 2 sc_part_at.nd rfl (Or.inl rfl) (qvb 1) ip_mulW lo_int))))
    (qs_one (qs_ret (qvb 2)))))) (fun as Q h => ?_)
  · obtain ⟨n, p, rfl, n1, p2, p29, nb, q⟩ := h
    rfl
  obtain ⟨n, p, rfl, n1, p2, p29, nb, q⟩ := h
  refine while_w (fun a : Nat × Nat => [some (.val (.int (a.1 : Nat))), some (.val (.int p)), some (.val (.int ((p ^ a.2 : Nat) : Int)))]) (fun a => n = p ^ a.2 * a.1 ∧ 1 ≤ a.1) (fun a => a.1) (n, 0) rfl ⟨by simp, n1⟩ fun ⟨m, k⟩ ⟨e, hm⟩ => ?_
  dsimp only at e hm ⊢
  have p0 : 0 < p ^ k := Nat.pow_pos (by omega)
  refine ⟨by omega, ifd (fun c => ?_) (fun c => ?_)⟩
  · have c' : m % p = 0 := by omega
    have dm := Nat.div_add_mod m p
    have lt : m / p < m := Nat.div_lt_self (by omega) (by omega)
    have pos : 1 ≤ m / p := by
      rcases Nat.eq_zero_or_pos (m / p) with z | z
      · rw [z] at dm; omega
      · exact z
    have bp : Bd 5 (p : Int) := by unfold Bd; omega
    have le : p ^ k ≤ n := by rw [e]; exact Nat.le_mul_of_pos_right _ hm
    have bk : Bd 2000 ((p ^ k : Nat) : Int) := by unfold Bd; omega
    refine ⟨Bd.divOk (by omega) bp (by decide) _, bk.mulOk bp, (m / p, k + 1), ?_, ⟨?_, pos⟩, lt⟩
    · dsimp only
      rw [Int.natCast_ediv, Nat.pow_succ, Int.natCast_mul]
      rfl
    · rw [Nat.pow_succ, Nat.mul_assoc, e]
      congr 1
      rw [c', Nat.add_zero] at dm
      exact dm.symm
  · refine q k ⟨m, e⟩ fun ⟨z, hz⟩ => c ?_
    have : p ^ k * m = p ^ k * (p * z) := by rw [← e, hz, Nat.pow_succ, Nat.mul_assoc]
    have := Nat.eq_of_mul_eq_mul_left p0 this
    rw [this, Int.natCast_mul]
    exact Int.mul_emod_right _ _
theorem vc_part_at {K : PySem.W.Frag} {mg : Str → Option Value} {X : Cx} {p pos : Pos} {e : Expr} {es : List Expr} {po : WAO} (T : Txt K mg) (hq : Quiet X.A) (hr : Room 1 X.A) (ha : QAA X (e :: es) po) (hg : Gl X "part_at" := by rfl)
    (he : starEach (e :: es) X.env = (false, eval e X.env) :: starEach es X.env := by rfl) (hpl : (backTo pos (starEach es X.env)).any (·.1) = false := by rfl) (hK : X.K = K := by rfl) (hmg : X.mg = mg := by rfl) :
    QE X (.Call (.Name "part_at" p) (e :: es) [] pos) (wCall vp_part_at po) := by
  subst hK hmg
  exact q_call (vo_part_at T) hq hr hg T.m_part_at T.F_part_at.kp T.b_part_at ha (by decide) he hpl

def seqD (x : PyData) (cs : List Int) : Prop := x = .tuple (intsD cs) ∨ x = .list (intsD cs)
theorem seqD_star {x : PyData} {cs : List Int} (h : seqD x cs) {Q : List PyData → Prop} (q : Q (intsD cs)) : oStar x Q := by
  rcases h with rfl | rfl <;> exact q
def vp_common_divisor : PSp := fun as Q => ∃ (m : Int) (x : PyData) (cs : List Int), as = [.val (.int m), .val x] ∧ seqD x cs ∧ Q (.int (gcdL m cs))
theorem vo_common_divisor {P : Program} {w : World} {K : PySem.W.Frag} {mg : Str → Option Value} {base : Heap} (T : Txt K mg) : GFn P w K mg base 1 T.a_common_divisor T.d_common_divisor ["number", "others"] (spV K w vp_common_divisor) := by
  refine fnV T.F_common_divisor sc_common_divisor vp_common_divisor (fun as Q h => ?_) (fun cdv A outer s H E hq hr => (qs_cons (qs_set 2 sc_common_divisor.nd rfl (Or.inl rfl) (qv 0))
    (qs_cons (qs_for PassesOwn.never (qi_seq (qv 1)) (QGn.g (vs := [3]) (qg_name 3 sc_common_divisor.nd rfl (Or.inl rfl))) (qs_one (qs_set 2 sc_common_divisor.nd rfl (Or.inl rfl) (q_Bfun cr_gcd lc_gcd (by rfl) T.m_gcd (qab_cons (qvb 2) (qab_cons (qvb 3) qab_nil))))))
    (qs_one (qs_ret (qvb 2)))))) (fun as Q h => ?_)
  · obtain ⟨m, x, cs, rfl, hx, q⟩ := h
    rfl
  obtain ⟨m, x, cs, rfl, hx, q⟩ := h
  refine seqD_star hx (for_w (fun a : Option AV × Int => [some (.val (.int m)), some (.val x), some (.val (.int a.2)), a.1]) (fun i a => a.2 = gcdL m (cs.take i)) (none, m) rfl rfl (fun i y ⟨z, g⟩ hy e => ?_) (fun ⟨z, g⟩ e => ?_))
  · obtain ⟨c, hc, rfl⟩ := intsD_at hy
    refine ⟨(_, _), rfl, ?_⟩
    show gcdI g c = _
    rw [List.take_add_one, hc, show g = gcdL m (cs.take i) from e]
    unfold gcdL
    rw [List.foldl_append]
    rfl
  · have e : g = gcdL m (cs.take (intsD cs).length) := e
    rw [List.length_map, List.take_length] at e
    rw [← e] at q
    exact q
theorem vc_common_divisor {K : PySem.W.Frag} {mg : Str → Option Value} {X : Cx} {p pos : Pos} {e : Expr} {es : List Expr} {po : WAO} (T : Txt K mg) (hq : Quiet X.A) (hr : Room 1 X.A) (ha : QAA X (e :: es) po) (hg : Gl X "common_divisor" := by rfl)
    (he : starEach (e :: es) X.env = (false, eval e X.env) :: starEach es X.env := by rfl) (hpl : (backTo pos (starEach es X.env)).any (·.1) = false := by rfl) (hK : X.K = K := by rfl) (hmg : X.mg = mg := by rfl) :
    QE X (.Call (.Name "common_divisor" p) (e :: es) [] pos) (wCall vp_common_divisor po) := by
  subst hK hmg
  exact q_call (vo_common_divisor T) hq hr hg T.m_common_divisor T.F_common_divisor.kp T.b_common_divisor ha (by decide) he hpl

/-! ### periods -/
theorem pw_at {pw : List (Nat × Nat)} {i : Nat} {x : PyData} (h : (intsD (intsN (pw.map (·.1))))[i]? = some x) : ∃ y, pw[i]? = some y ∧ x = .int (y.1 : Int) := by
  obtain ⟨c, hc, rfl⟩ := intsD_at h
  rw [List.getElem?_map, List.getElem?_map] at hc
  cases e : pw[i]? with
  | none => rw [e] at hc; cases hc
  | some y => rw [e] at hc; exact ⟨y, rfl, by cases hc; rfl⟩
def vp_is_period : PSp := fun as Q => ∃ pw, Per pw ∧ as = [.val (.int ((mOf pw : Nat) : Int))] ∧ Q (.bool true)
theorem vo_is_period {P : Program} {w : World} {K : PySem.W.Frag} {mg : Str → Option Value} {base : Heap} (T : Txt K mg) : GFn P w K mg base 2 T.a_is_period T.d_is_period ["thing"] (spV K w vp_is_period) := by
  refine fnV T.F_is_period sc_is_period vp_is_period (fun as Q h => ?_) (fun cdv A outer s H E hq hr => (qs_cons (qs_if (qw_or (qt_not (qt_val (vc_is_integer T hq (hr.mono (by decide)) (qaa_v (qv 0) qaa_nil)))) (qw_or1 (qt_lt (qvb 0) qc_int.b))).t (qs_one (qs_ret qc_bl.b)) qs_nil)
    (qs_cons (qs_par (i := 1) (j := 2) sc_is_period.nd rfl rfl (by decide) rfl rfl (qao_v (qv 0) (qao_v qc_int qao_nil)) (by rfl))
    (qs_cons (qs_for PassesOwn.never (qi_seq (vc_primes_of T hq (hr.mono (by decide)) (qaa_v (qv 0) qaa_nil))) (QGn.g (vs := [3]) (qg_name 3 sc_is_period.nd rfl (Or.inl rfl))) (qs_cons (qs_aug 1 sc_is_period.nd rfl (Or.inl rfl) (vc_part_at T hq (hr.mono (by decide)) (qaa_v (qv 1) (qaa_v (qv 3) qaa_nil))).b ip_fdivW lo_int)
        (qs_one (qs_aug 2 sc_is_period.nd rfl (Or.inl rfl) (qvb 3) ip_mulW lo_int))))
    (qs_one (qs_ret (q_and (q_eq hr.units (qvb 1) qc_int.b) (q_one (q_le (qvb 2) (qg_int (g_MOST_PRIMES_MULTIPLIED T (by rfl))).b))).b)))))) (fun as Q h => ?_)
  · obtain ⟨pw, hp, rfl, q⟩ := h
    rfl
  obtain ⟨pw, hp, rfl, q⟩ := h
  have hm := mOf_pos hp.ok
  refine ⟨_, rfl, ?_⟩
  refine ifd (fun c => by omega) (fun _ => ?_)
  refine ⟨rfl, _, rfl, ?_⟩
  rw [primesOf_mOf hp.ok]
  refine for_w (fun a : Option AV × Nat × Nat => [some (.val (.int ((mOf pw : Nat) : Int))), some (.val (.int (a.2.1 : Int))), some (.val (.int (a.2.2 : Int))), a.1]) (fun i a => a.2.1 = mOf (pw.drop i) ∧ a.2.2 = prodP (pw.take i)) (none, mOf pw, 1) rfl ⟨rfl, rfl⟩ (fun i x ⟨z, a, b⟩ hx ⟨e1, e2⟩ => ?_) (fun ⟨z, a, b⟩ ⟨e1, e2⟩ => ?_)
  · dsimp only at e1 e2
    subst e1 e2
    obtain ⟨y, hy, rfl⟩ := pw_at hx
    have hd : pw.drop i = y :: pw.drop (i + 1) := by
      obtain ⟨hi, rfl⟩ := List.getElem?_eq_some_iff.mp hy
      exact List.drop_eq_getElem_cons hi
    have hw := hp.ok.drop i
    have hyP := hp.ok.mem (List.mem_of_getElem? hy)
    have y2 := PN_lt _ hyP
    have hpos := mOf_pos hw
    have hbd : mOf (pw.drop i) < 2 ^ 2000 := Nat.lt_of_le_of_lt (Nat.le_of_dvd (by omega) (mOf_drop_dvd i)) hp.bd
    refine ⟨mOf (pw.drop i), y.1, rfl, hpos, y2.1, y2.2, hbd, fun k k1 k2 => ?_⟩
    rw [hd] at k1 k2 hw
    obtain rfl := part_first hw k1 k2
    have e2 : mOf (pw.drop i) = y.1 ^ y.2 * mOf (pw.drop (i + 1)) := by rw [hd]; rfl
    have p0 : 0 < y.1 ^ y.2 := Nat.pow_pos (by omega)
    have lt : y.1 ^ y.2 < 2 ^ 2000 := Nat.lt_of_le_of_lt (Nat.le_of_dvd hpos (by rw [e2]; exact Nat.dvd_mul_right _ _)) hbd
    have few : prodP (pw.take i) ≤ 1000 := by
      have h := hp.few
      have : prodP pw = prodP (pw.take i) * prodP (pw.drop i) := by
        have app : ∀ a b : List (Nat × Nat), prodP (a ++ b) = prodP a * prodP b := by
          intro a b
          induction a with
          | nil => simp [prodP]
          | cons x r ih => simp [prodP, ih, Nat.mul_assoc]
        rw [← app, List.take_append_drop]
      have d1 : 1 ≤ prodP (pw.drop i) := by
        have : ∀ l : List (Nat × Nat), (∀ z ∈ l, 2 ≤ z.1) → 1 ≤ prodP l := by
          intro l
          induction l with
          | nil => intro _; exact Nat.le_refl _
          | cons x r ih => intro h; exact Nat.mul_pos (by have := h x List.mem_cons_self; omega) (ih fun z hz => h z (List.mem_cons_of_mem _ hz))
        exact this _ fun z hz => (PN_lt _ (hp.ok.mem (List.mem_of_mem_drop hz))).1
      have := Nat.le_mul_of_pos_right (prodP (pw.take i)) d1
      omega
    refine ⟨Bd.divOk (b := 2000) (by omega) (by unfold Bd; omega) (by decide) _, Bd.mulOk (a := 12) (b := 12) (by unfold Bd; omega) (by unfold Bd; omega), (some (.val (.int (y.1 : Int))), mOf (pw.drop (i + 1)), prodP (pw.take (i + 1))), ?_, ⟨rfl, rfl⟩⟩
    have e3 : ((mOf (pw.drop i) : Nat) : Int) / ((y.1 ^ y.2 : Nat) : Int) = ((mOf (pw.drop (i + 1)) : Nat) : Int) := by
      rw [e2, ← Int.natCast_ediv, Nat.mul_div_cancel_left _ p0]
    have e4 : ((prodP (pw.take i) : Nat) : Int) * (y.1 : Int) = ((prodP (pw.take (i + 1)) : Nat) : Int) := by
      rw [List.take_add_one, hy]
      show _ = ((prodP (pw.take i ++ [y]) : Nat) : Int)
      rw [prodP_append, Int.natCast_mul]
    dsimp only
    rw [← e3, ← e4]
    rfl
  · have l : (intsD (intsN (pw.map (·.1)))).length = pw.length := by simp
    rw [l] at e1 e2
    dsimp only at e1 e2
    rw [List.drop_length] at e1
    rw [List.take_length] at e2
    subst e1 e2
    have few : ((prodP pw : Nat) : Int) ≤ 1000 := by have := hp.few; omega
    have z := q
    rw [← decide_eq_true few] at z
    exact z
theorem vc_is_period {K : PySem.W.Frag} {mg : Str → Option Value} {X : Cx} {p pos : Pos} {e : Expr} {es : List Expr} {po : WAO} (T : Txt K mg) (hq : Quiet X.A) (hr : Room 2 X.A) (ha : QAA X (e :: es) po) (hg : Gl X "is_period" := by rfl)
    (he : starEach (e :: es) X.env = (false, eval e X.env) :: starEach es X.env := by rfl) (hpl : (backTo pos (starEach es X.env)).any (·.1) = false := by rfl) (hK : X.K = K := by rfl) (hmg : X.mg = mg := by rfl) :
    QE X (.Call (.Name "is_period" p) (e :: es) [] pos) (wCall vp_is_period po) := by
  subst hK hmg
  exact q_call (vo_is_period T) hq hr hg T.m_is_period T.F_is_period.kp T.b_is_period ha (by decide) he hpl

/-! ### cells -/
def isCell : PyData → Bool
  | .tuple ds => decide (1 ≤ ds.length ∧ ds.length ≤ 3) && ds.all isInt
  | _ => false
theorem isCell_tup (ds : List PyData) : isCell (.tuple ds) = (decide (1 ≤ ds.length ∧ ds.length ≤ 3) && ds.all isInt) := rfl
def vp_is_cell : PSp := fun as Q => ∃ d, as = [.val d] ∧ Q (.bool (isCell d))
theorem bls_all (ds : List PyData) (f : PyData → Bool) : (ds.map fun d => PyData.bool (f d)) = (ds.map f).map PyData.bool := by rw [List.map_map]; rfl
theorem vo_is_cell {P : Program} {w : World} {K : PySem.W.Frag} {mg : Str → Option Value} {base : Heap} (T : Txt K mg) : GFn P w K mg base 2 T.a_is_cell T.d_is_cell ["thing"] (spV K w vp_is_cell) := by
  refine fnV T.F_is_cell sc_is_cell vp_is_cell (fun as Q h => ?_) (fun cdv A outer s H E hq hr => (qs_cons (qs_if (qw_or (qt_not (qt_val (q_isi kb_T (by rfl) T.n_isinstance (v_tuple T (by rfl)) (qvb 0)))) (qw_or1 (qt_not (qt_chain op_le op_le qc_int.b (q_B call_lenK lc_len (by rfl) T.n_len (by decide +kernel) (qab_cons (qvb 0) qab_nil)).b (qg_int (g_MOST_BREADTH T (by rfl))).b)))).t (qs_one (qs_ret qc_bl.b)) qs_nil)
    (qs_one (qs_ret (q_B cr_allK lc_bls (by rfl) T.n_all (by decide +kernel) (qab_cons (q_lc [("number", 1)] sc_is_cell.nd (qi_seqB (qvb 0)) (blkOk_by (N := N_is_cell) (sc := defScope s_is_cell) (by decide +kernel)) (fun _ _ _ _ _ => (qg_name 1 sc_is_cell.nd rfl (Or.inl rfl))) (fun _ _ _ _ _ => qts_nil) (fun _ _ _ _ _ => (vc_is_integer T hq (hr.mono (by decide)) (qaa_v (qv 1) qaa_nil)))).e.b qab_nil)).b)))) (fun as Q h => ?_)
  · obtain ⟨d, rfl, q⟩ := h
    rfl
  obtain ⟨d, rfl, q⟩ := h
  cases d with
  | tuple ds =>
    refine ifd (fun c1 => ifn (fun c2 => ?_) (fun c2 => ?_)) (fun c1 => ?_)
    · have e : isCell (.tuple ds) = false := by
        rw [isCell_tup, decide_eq_false (by omega), Bool.false_and]
      rw [e] at q
      exact q
    · refine ⟨by omega, comp_map (fun d => .bool (isInt d)) (fun i x hx R r => ⟨x, rfl, r⟩) ⟨ds.map isInt, bls_all ds isInt, ?_⟩⟩
      have e : isCell (.tuple ds) = (ds.map isInt).all id := by
        rw [isCell_tup, decide_eq_true (by omega), Bool.true_and, List.all_map]
        rfl
      rw [e] at q
      exact q
    · have e : isCell (.tuple ds) = false := by
        rw [isCell_tup, decide_eq_false (by omega), Bool.false_and]
      rw [e] at q
      exact q
  | _ => exact q
theorem vc_is_cell {K : PySem.W.Frag} {mg : Str → Option Value} {X : Cx} {p pos : Pos} {e : Expr} {es : List Expr} {po : WAO} (T : Txt K mg) (hq : Quiet X.A) (hr : Room 2 X.A) (ha : QAA X (e :: es) po) (hg : Gl X "is_cell" := by rfl)
    (he : starEach (e :: es) X.env = (false, eval e X.env) :: starEach es X.env := by rfl) (hpl : (backTo pos (starEach es X.env)).any (·.1) = false := by rfl) (hK : X.K = K := by rfl) (hmg : X.mg = mg := by rfl) :
    QE X (.Call (.Name "is_cell" p) (e :: es) [] pos) (wCall vp_is_cell po) := by
  subst hK hmg
  exact q_call (vo_is_cell T) hq hr hg T.m_is_cell T.F_is_cell.kp T.b_is_cell ha (by decide) he hpl

theorem isCell_ints {cs : List Int} (l1 : 1 ≤ cs.length) (l3 : cs.length ≤ 3) : isCell (.tuple (intsD cs)) = true := by
  rw [isCell_tup, List.length_map, decide_eq_true ⟨l1, l3⟩, Bool.true_and, List.all_eq_true]
  intro x hx
  obtain ⟨c, _, rfl⟩ := List.mem_map.mp hx
  rfl
/-! ### stripes -/
def vp_is_stripe : PSp := fun as Q => ∃ pw cs r, SOk pw cs r ∧ as = [.val (strD (mOf pw) cs r)] ∧ Q (.bool true)
theorem vo_is_stripe {P : Program} {w : World} {K : PySem.W.Frag} {mg : Str → Option Value} {base : Heap} (T : Txt K mg) : GFn P w K mg base 3 T.a_is_stripe T.d_is_stripe ["thing"] (spV K w vp_is_stripe) := by
  refine fnV T.F_is_stripe sc_is_stripe vp_is_stripe (fun as Q h => ?_) (fun cdv A outer s H E hq hr => (qs_cons (qs_if (qw_or (qt_not (qt_val (q_isi kb_T (by rfl) T.n_isinstance (v_tuple T (by rfl)) (qvb 0)))) (qw_or1 (qt_ne hr.units (q_B call_lenK lc_len (by rfl) T.n_len (by decide +kernel) (qab_cons (qvb 0) qab_nil)).b qc_int.b))).t (qs_one (qs_ret qc_bl.b)) qs_nil)
    (qs_cons (qs_asg (qv 0) (QGn.g (vs := [1, 2, 3]) (qg_tup (qgs_cons (qg_name 1 sc_is_stripe.nd rfl (Or.inr rfl)) (qgs_cons (qg_name 2 sc_is_stripe.nd rfl (Or.inl rfl)) (qgs_cons (qg_name 3 sc_is_stripe.nd rfl (Or.inl rfl)) qgs_nil))))))
    (qs_cons (qs_if (qw_or (qt_not (qt_val (vc_is_period T hq (hr.mono (by decide)) (qaa_v (qv 1) qaa_nil)))) (qw_or (qt_not (qt_val (vc_is_cell T hq (hr.mono (by decide)) (qaa_v (qv 2) qaa_nil)))) (qw_or1 (qt_not (qt_val (vc_is_integer T hq (hr.mono (by decide)) (qaa_v (qv 3) qaa_nil))))))).t (qs_one (qs_ret qc_bl.b)) qs_nil)
    (qs_cons (qs_if (qt_not (qt_val (q_B cr_allK lc_bls (by rfl) T.n_all (by decide +kernel) (qab_cons (q_lc [("number", 4)] sc_is_stripe.nd (qi_seqB (q_tup (qa_star (qvb 2) (qa_cons (qv 3) qa_nil))).b) (blkOk_by (N := N_is_stripe) (sc := defScope s_is_stripe) (by decide +kernel)) (fun _ _ _ _ _ => (qg_name 4 sc_is_stripe.nd rfl (Or.inl rfl))) (fun _ _ _ _ _ => qts_nil) (fun _ _ _ _ _ => (q_chain op_le op_lt qc_int.b (qvb 4) (qvb 1)))).e.b qab_nil)))) (qs_one (qs_ret qc_bl.b)) qs_nil)
    (qs_one (qs_ret (q_eq hr.units (vc_common_divisor T hq (hr.mono (by decide)) (qaa_v (qv 1) (qaa_v (qv 2) qaa_nil))).b qc_int.b).b))))))) (fun as Q h => ?_)
  · obtain ⟨pw, cs, r, hs, rfl, q⟩ := h
    rfl
  obtain ⟨pw, cs, r, hs, rfl, q⟩ := h
  refine ⟨pw, hs.per, rfl, _, rfl, ?_⟩
  rw [isCell_ints hs.l1 hs.l3]
  refine ⟨_, rfl, ?_⟩
  have l3 := hs.l3
  have ln : (intsD cs ++ [PyData.int r]).length ≤ 4 := by simp; omega
  refine ⟨Nat.le_trans ln (by decide), Nat.le_trans ln (by decide), comp_map (fun _ => .bool true) (fun i x hx R rr => ?_) ?_⟩
  · obtain ⟨n, rfl, n0, n1⟩ : ∃ n : Int, x = .int n ∧ 0 ≤ n ∧ n < ((mOf pw : Nat) : Int) := by
      have hm := List.mem_of_getElem? hx
      rcases List.mem_append.mp hm with h | h
      · obtain ⟨c, hc, rfl⟩ := List.mem_map.mp h
        exact ⟨c, rfl, hs.c0 c hc⟩
      · obtain rfl := List.mem_singleton.mp h
        exact ⟨r, rfl, hs.r0⟩
    refine ifd (fun _ => ?_) (fun c => absurd n0 c)
    show R (.bool (decide (n < ((mOf pw : Nat) : Int))))
    rw [decide_eq_true n1]
    exact rr
  · refine ⟨(intsD cs ++ [PyData.int r]).map fun _ => true, by rw [List.map_map]; rfl, ?_⟩
    have e : ((intsD cs ++ [PyData.int r]).map fun _ => true).all id = true := by
      rw [List.all_map]
      exact List.all_eq_true.mpr fun _ _ => rfl
    dsimp only
    rw [e]
    refine ⟨_, _, cs, rfl, .inl rfl, ?_⟩
    show Q (.bool (decide (gcdL ((mOf pw : Nat) : Int) cs = 1)))
    rw [decide_eq_true hs.cop]
    exact q
theorem vc_is_stripe {K : PySem.W.Frag} {mg : Str → Option Value} {X : Cx} {p pos : Pos} {e : Expr} {es : List Expr} {po : WAO} (T : Txt K mg) (hq : Quiet X.A) (hr : Room 3 X.A) (ha : QAA X (e :: es) po) (hg : Gl X "is_stripe" := by rfl)
    (he : starEach (e :: es) X.env = (false, eval e X.env) :: starEach es X.env := by rfl) (hpl : (backTo pos (starEach es X.env)).any (·.1) = false := by rfl) (hK : X.K = K := by rfl) (hmg : X.mg = mg := by rfl) :
    QE X (.Call (.Name "is_stripe" p) (e :: es) [] pos) (wCall vp_is_stripe po) := by
  subst hK hmg
  exact q_call (vo_is_stripe T) hq hr hg T.m_is_stripe T.F_is_stripe.kp T.b_is_stripe ha (by decide) he hpl

/-! ### inverse -/
def vp_inverse : PSp := fun as Q => ∃ (a : Int) (q : Nat), as = [.val (.int a), .val (.int (q : Int))] ∧ 2 ≤ q ∧ q < 2 ^ 2000 ∧ Nat.Coprime q a.natAbs ∧ ∀ v : Int, 0 ≤ v → v < q → (q : Int) ∣ v * a - 1 → Q (.int v)
/-! ### what is 1 at one prime power and 0 at all others -/
def vp_one_at : PSp := fun as Q => ∃ (pw : List (Nat × Nat)) (x : Nat × Nat), as = [.val (.int ((mOf pw : Nat) : Int)), .val (.int (x.1 : Int))] ∧ Per pw ∧ x ∈ pw ∧
  ∀ v : Int, 0 ≤ v → v < (mOf pw : Nat) → ((qOf x : Nat) : Int) ∣ v - 1 → (∀ y ∈ pw, y.1 ≠ x.1 → ((qOf y : Nat) : Int) ∣ v) → Q (.int v)
end KL
namespace KL
open PySem PySem.Spec PyProof.Rows L2 RZ StX SrtO Kw KM PV
/-! ### the first place -/
theorem enumD_at' {cs : List PyData} {i : Nat} {x : PyData} (h : (enumD cs)[i]? = some x) : ∃ y, cs[i]? = some y ∧ x = pairD (.int (i : Nat)) y := by
  have hi : i < cs.length := by
    have := (List.getElem?_eq_some_iff.mp h).1
    rw [enumD_len] at this
    exact this
  refine ⟨cs[i], List.getElem?_eq_getElem hi, ?_⟩
  rw [enumD_at (List.getElem?_eq_getElem hi)] at h
  exact (Option.some.inj h).symm
def vp_first_place : PSp := fun as Q => ∃ (p : Nat) (cs : List Int) (k : Nat) (c : Int), as = [.val (.tuple (intsD cs)), .val (.int (p : Int))] ∧ 1 ≤ p ∧ cs.length ≤ 3 ∧ IsFst p cs k c ∧ Q (.int (k : Int))
/-! ### the normal form -/
def vp_normal_factor : PSp := fun as Q => ∃ (pw : List (Nat × Nat)) (cs : List Int), as = [.val (.int ((mOf pw : Nat) : Int)), .val (.tuple (intsD cs))] ∧ Per pw ∧ cs.length ≤ 3 ∧ Free pw cs ∧ ∀ u : Int, IsU pw cs u → Bd 4500 u → Q (.int u)
def vp_by_period : PSp := fun as Q => ∃ (m : Nat) (x : PyData) (cs : List Int) (r : Int), as = [.val (.int (m : Int)), .val x, .val (.int r)] ∧ 1 ≤ m ∧ seqD x cs ∧ cs.length ≤ 3 ∧ Q (strD m (cs.map fun c => c % (m : Int)) (r % (m : Int)))
def vp_normal_form : PSp := fun as Q => ∃ (pw : List (Nat × Nat)) (cs : List Int) (r : Int), as = [.val (strD (mOf pw) cs r)] ∧ Per pw ∧ cs.length ≤ 3 ∧ Free pw cs ∧ (∀ c ∈ cs, Bd 2000 c) ∧ Bd 2000 r ∧ Q (strD (mOf pw) (nfC pw cs) (nfR pw cs r))
/-! ### heaps -/
def vp_is_stripe_with_tint : PSp := fun as Q => ∃ (x : Sr × Int) (d : Nat), as = [.val (prD x)] ∧ SrOk d x.1 ∧ x.2 ≠ 0 ∧ Q (.bool true)
theorem vo_is_stripe_with_tint {P : Program} {w : World} {K : PySem.W.Frag} {mg : Str → Option Value} {base : Heap} (T : Txt K mg) : GFn P w K mg base 4 T.a_is_stripe_with_tint T.d_is_stripe_with_tint ["thing"] (spV K w vp_is_stripe_with_tint) := by
  refine fnV T.F_is_stripe_with_tint sc_is_stripe_with_tint vp_is_stripe_with_tint (fun as Q h => ?_) (fun cdv A outer s H E hq hr => (qs_cons (qs_if (qw_or (qt_not (qt_val (q_isi kb_T (by rfl) T.n_isinstance (v_tuple T (by rfl)) (qvb 0)))) (qw_or1 (qt_ne hr.units (q_B call_lenK lc_len (by rfl) T.n_len (by decide +kernel) (qab_cons (qvb 0) qab_nil)).b qc_int.b))).t (qs_one (qs_ret qc_bl.b)) qs_nil)
    (qs_cons (qs_asg (qv 0) (QGn.g (vs := [1, 2]) (qg_tup (qgs_cons (qg_name 1 sc_is_stripe_with_tint.nd rfl (Or.inl rfl)) (qgs_cons (qg_name 2 sc_is_stripe_with_tint.nd rfl (Or.inl rfl)) qgs_nil)))))
    (qs_one (qs_ret (q_and (vc_is_stripe T hq (hr.mono (by decide)) (qaa_v (qv 1) qaa_nil)) (q_and (vc_is_integer T hq (hr.mono (by decide)) (qaa_v (qv 2) qaa_nil)) (q_one (q_ne hr.units (qvb 2) qc_int.b)))).b))))) (fun as Q h => ?_)
  · obtain ⟨x, d, rfl, hs, hn, q⟩ := h
    rfl
  obtain ⟨x, d, rfl, hs, hn, q⟩ := h
  obtain ⟨pw, em, hS⟩ := hs.ex
  refine ⟨pw, x.1.c, x.1.r, hS, by rw [em], _, rfl, ?_⟩
  show Q (.bool (!decide (x.2 = 0)))
  rw [decide_eq_false hn]
  exact q
theorem vc_is_stripe_with_tint {K : PySem.W.Frag} {mg : Str → Option Value} {X : Cx} {p pos : Pos} {e : Expr} {es : List Expr} {po : WAO} (T : Txt K mg) (hq : Quiet X.A) (hr : Room 4 X.A) (ha : QAA X (e :: es) po) (hg : Gl X "is_stripe_with_tint" := by rfl)
    (he : starEach (e :: es) X.env = (false, eval e X.env) :: starEach es X.env := by rfl) (hpl : (backTo pos (starEach es X.env)).any (·.1) = false := by rfl) (hK : X.K = K := by rfl) (hmg : X.mg = mg := by rfl) :
    QE X (.Call (.Name "is_stripe_with_tint" p) (e :: es) [] pos) (wCall vp_is_stripe_with_tint po) := by
  subst hK hmg
  exact q_call (vo_is_stripe_with_tint T) hq hr hg T.m_is_stripe_with_tint T.F_is_stripe_with_tint.kp T.b_is_stripe_with_tint ha (by decide) he hpl

end KL
namespace KL
open PySem PySem.Spec PyProof.Rows L2 RZ StX SrtO Kw KM PV
/-! ### heaps -/
theorem map_at {α : Type} {f : α → PyData} {l : List α} {i : Nat} {x : PyData} (h : (l.map f)[i]? = some x) : ∃ y, l[i]? = some y ∧ x = f y := by
  rw [List.getElem?_map] at h
  obtain ⟨c, e, rfl⟩ := Option.map_eq_some_iff.mp h
  exact ⟨c, e, rfl⟩
/-- [f x for x in xs], over data that stand for things -/
theorem comp_mapA {α : Type} {g : WG} {te : WE} {Γ : VEnv} {enc : α → PyData} {l : List α} {Q : List PyData → Prop} (f : α → PyData) (h : ∀ (i : Nat) (y : α), l[i]? = some y → ∀ R : PyData → Prop, R (f y) → g (enc y) Γ fun Γ1 => te Γ1 R) (q : Q (l.map f)) : CompP g wYes te Γ (l.map enc) Q := by
  refine ⟨fun i acc => acc = (l.take i).map f, rfl, fun i x acc hx e => ?_, fun acc e => ?_⟩
  · obtain ⟨y, hy, rfl⟩ := map_at hx
    refine h i y hy _ ?_
    show acc ++ [f y] = _
    rw [e, List.take_add_one, hy]
    simp
  · have e : acc = (l.take (l.map enc).length).map f := e
    rw [List.length_map, List.take_length] at e
    rw [e]
    exact q
/-- [f x for x in xs if ..], over data that stand for things -/
theorem comp_fmA {α : Type} {g : WG} {tt : WT} {te : WE} {Γ : VEnv} {enc : α → PyData} {l : List α} {Q : List PyData → Prop} (f : α → Option PyData) (h : ∀ (i : Nat) (y : α), l[i]? = some y → ∀ R : Option PyData → Prop, R (f y) → g (enc y) Γ fun Γ1 => tt Γ1 fun b => if b = true then te Γ1 fun z => R (some z) else R none)
    (q : Q (l.filterMap f)) : CompP g tt te Γ (l.map enc) Q := by
  refine ⟨fun i acc => acc = (l.take i).filterMap f, rfl, fun i x acc hx e => ?_, fun acc e => ?_⟩
  · obtain ⟨y, hy, rfl⟩ := map_at hx
    have := h i y hy (fun o => acc ++ o.toList = (l.take (i + 1)).filterMap f) ?_
    · simpa using this
    · rw [e, List.take_add_one, hy]
      simp only [Option.toList_some, List.filterMap_append]
      cases eq : f y <;> simp [List.filterMap, eq]
  · have e : acc = (l.take (l.map enc).length).filterMap f := e
    rw [List.length_map, List.take_length] at e
    rw [e]
    exact q
theorem allT {α : Type} (l : List α) {Q : PyData → Prop} (q : Q (.bool true)) : oBls (fun bs => bs.all id) [.list (l.map fun _ => PyData.bool true)] Q := by
  refine ⟨l.map fun _ => true, by rw [List.map_map]; rfl, ?_⟩
  have e : (l.map fun _ => true).all id = true := by
    rw [List.all_map]
    exact List.all_eq_true.mpr fun _ _ => rfl
  dsimp only
  rw [e]
  exact q
theorem zipD_at' {xs ys : List PyData} {i : Nat} {x : PyData} (h : (zipD xs ys)[i]? = some x) : ∃ a b, xs[i]? = some a ∧ ys[i]? = some b ∧ x = pairD a b := by
  unfold zipD at h
  rw [List.getElem?_zipWith] at h
  cases e1 : xs[i]? with
  | none => rw [e1] at h; cases h
  | some a =>
    cases e2 : ys[i]? with
    | none => rw [e1, e2] at h; cases h
    | some b => rw [e1, e2] at h; exact ⟨a, b, rfl, rfl, (Option.some.inj h).symm⟩
theorem cut_from {α : Type} (l : List α) (n : Nat) : cutG l (some (n : Int)) none = l.drop n := by
  unfold cutG
  rw [HT.sIx_none, show HT.sIx l.length 0 (some (n : Int)) = min n l.length from HT.sIx_nat l.length 0 n]
  by_cases c : n ≤ l.length
  · rw [Nat.min_eq_left c, List.take_of_length_le (by rw [List.length_drop]; omega)]
  · rw [Nat.min_eq_right (by omega), List.drop_length, List.drop_eq_nil_of_le (by omega)]
    simp
theorem cut_to {α : Type} (l : List α) (n : Nat) : cutG l none (some (n : Int)) = l.take n := by
  unfold cutG
  rw [HT.sIx_none, show HT.sIx l.length l.length (some (n : Int)) = min n l.length from HT.sIx_nat l.length l.length n, List.drop_zero, Nat.sub_zero]
  by_cases c : n ≤ l.length
  · rw [Nat.min_eq_left c]
  · rw [Nat.min_eq_right (by omega), List.take_of_length_le (by omega), List.take_of_length_le (by omega)]
theorem const_map {xs : List PyData} (z : PyData) : (xs.map fun _ => z) = xs.map fun _ => z := rfl
def vp_is_heap : PSp := fun as Q => ∃ (hs : Hs) (d : Nat), as = [.val (hsD hs)] ∧ HsOk d hs ∧ hs.length ≤ 90000 ∧ Q (.bool true)
theorem sr_depth (s : Sr) : s.D.depth ≤ 40 := by
  have : PyData.depthAll (s.c.map PyData.int) = 0 := PySem.W.depth_ints _
  simp [Sr.D, strD, PyData.depth, PyData.depthAll, this]
theorem vo_is_heap {P : Program} {w : World} {K : PySem.W.Frag} {mg : Str → Option Value} {base : Heap} (T : Txt K mg) : GFn P w K mg base 5 T.a_is_heap T.d_is_heap ["thing"] (spV K w vp_is_heap) := by
  refine fnV T.F_is_heap sc_is_heap vp_is_heap (fun as Q h => ?_) (fun cdv A outer s H E hq hr => (qs_cons (qs_if (qw_or (qt_not (qt_val (q_isi kb_T (by rfl) T.n_isinstance (v_tuple T (by rfl)) (qvb 0)))) (qw_or1 (qt_not (qt_val (q_B cr_allK lc_bls (by rfl) T.n_all (by decide +kernel) (qab_cons (q_lc [("item", 2)] sc_is_heap.nd (qi_seqB (qvb 0)) (blkOk_by (N := N_is_heap) (sc := defScope s_is_heap) (by decide +kernel)) (fun _ _ _ _ _ => (qg_name 2 sc_is_heap.nd rfl (Or.inl rfl))) (fun _ _ _ _ _ => qts_nil) (fun _ _ _ _ _ => (vc_is_stripe_with_tint T hq (hr.mono (by decide)) (qaa_v (qv 2) qaa_nil)))).e.b qab_nil)))))).t (qs_one (qs_ret qc_bl.b)) qs_nil)
    (qs_cons (qs_set 1 sc_is_heap.nd rfl (Or.inr rfl) (q_lc [("stripe", 3), ("_", 4)] sc_is_heap.nd (qi_seqB (qvb 0)) (blkOk_by (N := N_is_heap) (sc := defScope s_is_heap) (by decide +kernel)) (fun _ _ _ _ _ => (qg_tup (qgs_cons (qg_name 3 sc_is_heap.nd rfl (Or.inl rfl)) (qgs_cons (qg_name 4 sc_is_heap.nd rfl (Or.inl rfl)) qgs_nil)))) (fun _ _ _ _ _ => qts_nil) (fun _ _ _ _ _ => (qv 3))).e)
    (qs_cons (qs_if (qt_not (qt_val (q_B cr_allK lc_bls (by rfl) T.n_all (by decide +kernel) (qab_cons (q_lc [("stripe", 3)] sc_is_heap.nd (qi_seqB (qvb 1)) (blkOk_by (N := N_is_heap) (sc := defScope s_is_heap) (by decide +kernel)) (fun _ _ _ _ _ => (qg_name 3 sc_is_heap.nd rfl (Or.inl rfl))) (fun _ _ _ _ _ => qts_nil) (fun _ _ _ _ _ => (q_eq hr.units (q_B call_lenK lc_len (by rfl) T.n_len (by decide +kernel) (qab_cons (q_ix (qvb 3) qc_int.b).b qab_nil)).b (q_B call_lenK lc_len (by rfl) T.n_len (by decide +kernel) (qab_cons (q_ix (q_ix (qvb 1) qc_int.b).b qc_int.b).b qab_nil)).b))).e.b qab_nil)))) (qs_one (qs_ret qc_bl.b)) qs_nil)
    (qs_one (qs_ret (q_B cr_allK lc_bls (by rfl) T.n_all (by decide +kernel) (qab_cons (q_lc [("before", 5), ("behind", 6)] sc_is_heap.nd (qi_zip (by rfl) T.n_zip (qvb 1) (q_slice (qvb 1) (qo_some qc_int) qo_none).b) (blkOk_by (N := N_is_heap) (sc := defScope s_is_heap) (by decide +kernel)) (fun _ _ _ _ _ => (qg_tup (qgs_cons (qg_name 5 sc_is_heap.nd rfl (Or.inl rfl)) (qgs_cons (qg_name 6 sc_is_heap.nd rfl (Or.inl rfl)) qgs_nil)))) (fun _ _ _ _ _ => qts_nil) (fun _ _ _ _ _ => (q_ltD hr.units (qvb 5) (qvb 6)))).e.b qab_nil)).b)))))) (fun as Q h => ?_)
  · obtain ⟨hs, d, rfl, ok, hl, q⟩ := h
    rfl
  obtain ⟨hs, d, rfl, ok, hl, q⟩ := h
  have l0 : (hs.map prD).length ≤ 100000 := by rw [List.length_map]; omega
  refine ⟨l0, comp_mapA (fun _ => .bool true) (fun i x hx R r => ⟨x, d, rfl, ok.sr x (List.mem_of_getElem? hx), ok.nz x (List.mem_of_getElem? hx), r⟩) (allT hs ?_)⟩
  refine ⟨l0, comp_mapA (fun x => x.1.D) (fun i x hx R r => r) ?_⟩
  have l1 : (hs.map fun x => x.1.D).length ≤ 100000 := by rw [List.length_map]; omega
  refine ⟨l1, comp_mapA (fun _ => .bool true) (fun i x hx R r => ?_) (allT hs ?_)⟩
  · obtain ⟨x0, h0⟩ : ∃ x0, hs[0]? = some x0 := by
      have hi := (List.getElem?_eq_some_iff.mp hx).1
      exact ⟨hs[0]'(by omega), List.getElem?_eq_getElem _⟩
    refine optW_of' (atI_nat (j := 0) (v := x0.1.D) (by rw [List.getElem?_map, h0]; rfl)) ?_
    show R (.bool (decide (((x.1.c.map PyData.int).length : Int) = ((x0.1.c.map PyData.int).length : Int))))
    rw [List.length_map, List.length_map, (ok.sr x (List.mem_of_getElem? hx)).len, (ok.sr x0 (List.mem_of_getElem? h0)).len, decide_eq_true rfl]
    exact r
  · have lz : (zipD (hs.map fun x => x.1.D) (cutG (hs.map fun x => x.1.D) (some 1) none)).length ≤ 100000 := by
      rw [zipD_len]
      exact Nat.le_trans (Nat.min_le_left _ _) l1
    refine ⟨lz, comp_map (fun _ => .bool true) (fun i x hx R r => ?_) (allT (zipD (hs.map fun x => x.1.D) (cutG (hs.map fun x => x.1.D) (some 1) none)) q)⟩
    obtain ⟨a, b, ha, hb, rfl⟩ := zipD_at' hx
    have hb : ((hs.map fun x => x.1.D).drop 1)[i]? = some b := by rw [← cut_from]; exact hb
    rw [List.getElem?_drop] at hb
    obtain ⟨y, hy, rfl⟩ := map_at ha
    obtain ⟨z, hz, rfl⟩ := map_at hb
    have lt := asc_at ok hy (show hs[i + 1]? = some z by rw [Nat.add_comm]; exact hz)
    refine ⟨Sr.alike _ _, (fun z => by cases z), sr_depth _, ?_⟩
    show R (.bool (srLt y.1 z.1))
    rw [lt]
    exact r
theorem vc_is_heap {K : PySem.W.Frag} {mg : Str → Option Value} {X : Cx} {p pos : Pos} {e : Expr} {es : List Expr} {po : WAO} (T : Txt K mg) (hq : Quiet X.A) (hr : Room 5 X.A) (ha : QAA X (e :: es) po) (hg : Gl X "is_heap" := by rfl)
    (he : starEach (e :: es) X.env = (false, eval e X.env) :: starEach es X.env := by rfl) (hpl : (backTo pos (starEach es X.env)).any (·.1) = false := by rfl) (hK : X.K = K := by rfl) (hmg : X.mg = mg := by rfl) :
    QE X (.Call (.Name "is_heap" p) (e :: es) [] pos) (wCall vp_is_heap po) := by
  subst hK hmg
  exact q_call (vo_is_heap T) hq hr hg T.m_is_heap T.F_is_heap.kp T.b_is_heap ha (by decide) he hpl

def vp_check_heap : PSp := fun as Q => ∃ (hs : Hs) (d : Nat), as = [.val (hsD hs)] ∧ HsOk d hs ∧ hs.length ≤ 90000 ∧ Q .none
theorem vo_check_heap {P : Program} {w : World} {K : PySem.W.Frag} {mg : Str → Option Value} {base : Heap} (T : Txt K mg) : GFn P w K mg base 6 T.a_check_heap T.d_check_heap ["thing"] (spV K w vp_check_heap) := by
  refine fnV T.F_check_heap sc_check_heap vp_check_heap (fun as Q h => ?_) (fun cdv A outer s H E hq hr => (qs_one (qs_if (qt_not (qt_val (vc_is_heap T hq (hr.mono (by decide)) (qaa_v (qv 0) qaa_nil)))) (qs_one qs_never) qs_nil))) (fun as Q h => ?_)
  · obtain ⟨hs, d, rfl, ok, hl, q⟩ := h
    rfl
  obtain ⟨hs, d, rfl, ok, hl, q⟩ := h
  exact ⟨hs, d, rfl, ok, hl, q⟩
theorem vc_check_heap {K : PySem.W.Frag} {mg : Str → Option Value} {X : Cx} {p pos : Pos} {e : Expr} {es : List Expr} {po : WAO} (T : Txt K mg) (hq : Quiet X.A) (hr : Room 6 X.A) (ha : QAA X (e :: es) po) (hg : Gl X "check_heap" := by rfl)
    (he : starEach (e :: es) X.env = (false, eval e X.env) :: starEach es X.env := by rfl) (hpl : (backTo pos (starEach es X.env)).any (·.1) = false := by rfl) (hK : X.K = K := by rfl) (hmg : X.mg = mg := by rfl) :
    QE X (.Call (.Name "check_heap" p) (e :: es) [] pos) (wCall vp_check_heap po) := by
  subst hK hmg
  exact q_call (vo_check_heap T) hq hr hg T.m_check_heap T.F_check_heap.kp T.b_check_heap ha (by decide) he hpl

/-! ### gathered -/
def entH (t : Hs) : List (NK × PyData) := t.map fun x => (x.1.K, .int x.2)
theorem entH_get (t : Hs) (s : Sr) : getE (entH t) s.K = (getH t s).map PyData.int := by
  unfold getE entH getH
  induction t with
  | nil => rfl
  | cons x r ih =>
    rw [List.map_cons, List.find?_cons, List.find?_cons]
    by_cases c : x.1 = s
    · rw [decide_eq_true c, decide_eq_true (congrArg Sr.K c)]
      rfl
    · rw [decide_eq_false c, decide_eq_false (fun z => c (Sr.K_inj z))]
      exact ih
theorem entH_put (t : Hs) (s : Sr) (u : Int) : putE (entH t) s.K (.int u) = entH (putH t s u) := by
  unfold putE putH
  rw [entH_get]
  cases getH t s with
  | none => simp [entH]
  | some v =>
    simp only [Option.map_some, Option.isSome_some, if_true]
    unfold entH
    rw [List.map_map, List.map_map]
    refine List.map_congr_left fun x _ => ?_
    dsimp only [Function.comp]
    by_cases c : x.1 = s
    · rw [if_pos c, if_pos (congrArg Sr.K c)]
    · rw [if_neg c, if_neg (fun z => c (Sr.K_inj z))]
theorem keyS (s : Sr) {Q : NK → Prop} (q : Q s.K) : keyW s.D Q := ⟨s.K, s.K_data, s.K_depth, rfl, q⟩
theorem sortP_prs (t : Hs) : sortP (t.map prD) = (sortHs t).map prD := by
  unfold sortP sortHs
  exact (List.map_mergeSort (r := prLe) (s := PySem.W.dataLe false id) (f := prD) (l := t) fun a _ b _ => rfl).symm
theorem sort_prW {t : Hs} (hz : t.length ≤ sizeLine) {Q : List PyData → Prop} (q : Q ((sortHs t).map prD)) : oSortD [.list (t.map prD)] Q := by
  refine ⟨PySem.W.AllAlike.of (enc := prD) fun p p' => prD_alike _ _, PySem.W.Sortable.tuples (enc := prD) fun p => ⟨_, _, rfl⟩, fun x hx => ?_, by rw [List.length_map]; exact hz, ?_⟩
  · obtain ⟨y, _, rfl⟩ := List.mem_map.mp hx
    exact prD_depth y
  · rw [sortP_prs]
    exact q
theorem nzH_fm : ∀ t : Hs, (t.filterMap fun x => if x.2 ≠ 0 then some (prD x) else none) = (nzH t).map prD
  | [] => rfl
  | x :: r => by
    have ih := nzH_fm r
    unfold nzH at ih ⊢
    rw [List.filterMap_cons, List.filter_cons]
    by_cases c : x.2 ≠ 0
    · rw [if_pos c, if_pos (decide_eq_true c), List.map_cons, ih]
    · rw [if_neg c, if_neg (by simpa using c), ih]
def vp_gathered : PSp := fun as Q => ∃ (l : List (Sr × Int)) (x : PyData), as = [.val x] ∧ (x = .list (l.map prD) ∨ x = .tuple (l.map prD)) ∧ l.length ≤ 90000 ∧ Q (hsD (gatS l))
theorem vo_gathered {P : Program} {w : World} {K : PySem.W.Frag} {mg : Str → Option Value} {base : Heap} (T : Txt K mg) : GFn P w K mg base 1 T.a_gathered T.d_gathered ["pairs"] (spV K w vp_gathered) := by
  refine fnV T.F_gathered sc_gathered vp_gathered (fun as Q h => ?_) (fun cdv A outer s H E hq hr => (qs_cons (qs_setD 1 sc_gathered.nd rfl (Or.inl rfl))
    (qs_cons (qs_for PassesOwn.never (qi_seq (qv 0)) (QGn.g (vs := [2, 3]) (qg_tup (qgs_cons (qg_name 2 sc_gathered.nd rfl (Or.inl rfl)) (qgs_cons (qg_name 3 sc_gathered.nd rfl (Or.inl rfl)) qgs_nil)))) (qs_one (qs_asg (q_add (q_dget2 1 hr.units (qv 2) qc_int).b (qvb 3)) (qg_subD 1 hr.units (qv 2)))))
    (qs_one (qs_ret (q_Ty call_tupleK lc_tupOf (by rfl) T.n_tuple (by decide +kernel) (qab_cons (q_BN (cr_sortD0 hr.units) lcn_sortD (by rfl) T.n_sorted (by decide +kernel) (qab_cons (q_lockN 1 (q_lc [("stripe", 2), ("tint", 3)] sc_gathered.nd (qi_items 1) (blkOk_by (N := N_gathered) (sc := defScope s_gathered) (by decide +kernel)) (fun _ _ _ _ _ => (qg_tup (qgs_cons (qg_name 2 sc_gathered.nd rfl (Or.inl rfl)) (qgs_cons (qg_name 3 sc_gathered.nd rfl (Or.inl rfl)) qgs_nil)))) (fun _ _ _ _ _ => (qts_one (qt_ne hr.units (qvb 3) qc_int.b))) (fun _ _ _ _ _ => (q_tupL (ql_cons (qv 2) (ql_cons (qv 3) ql_nil)))))).e.b qab_nil)).e.b qab_nil)).b))))) (fun as Q h => ?_)
  · obtain ⟨l, x, rfl, hx, hl, q⟩ := h
    rfl
  obtain ⟨l, x, rfl, hx, hl, q⟩ := h
  rcases hx with rfl | rfl
  · refine for_w (fun a : Option AV × Option AV × Hs => [some (.val (.list (l.map prD))), some (.dct false (entH a.2.2)), a.1, a.2.1]) (fun i a => a.2.2 = gatT [] (l.take i)) (none, none, []) rfl rfl (fun i x ⟨z1, z2, t⟩ hx e => ?_) (fun ⟨z1, z2, t⟩ e => ?_)
    · obtain ⟨y, hy, rfl⟩ := map_at hx
      have hi := (List.getElem?_eq_some_iff.mp hy).1
      have e : t = gatT [] (l.take i) := e
      have tl : t.length ≤ i := by
        rw [e]
        refine Nat.le_trans (gatT_len _ _) ?_
        rw [List.length_take]
        simp
        omega
      refine keyS y.1 ?_
      rw [entH_get]
      have : ((getH t y.1).map PyData.int).getD (.int 0) = .int ((getH t y.1).getD 0) := by cases getH t y.1 <;> rfl
      rw [this]
      refine keyS y.1 ⟨?_, (some (.val y.1.D), some (.val (.int y.2)), putH t y.1 ((getH t y.1).getD 0 + y.2)), ?_, ?_⟩
      · unfold entH
        rw [List.length_map]
        exact Nat.lt_of_le_of_lt tl (Nat.lt_of_lt_of_le (show i < 90000 by omega) (by decide))
      · dsimp only
        rw [← entH_put]
        rfl
      · dsimp only
        rw [List.take_add_one, hy, e]
        exact (gatT_snoc _ _ _).symm
    · have e : t = gatT [] (l.take (l.map prD).length) := e
      rw [List.length_map, List.take_length] at e
      have tl : t.length ≤ 90000 := by
        rw [e]
        refine Nat.le_trans (gatT_len _ _) ?_
        simpa using hl
      have el : ((entH t).map fun p => pairD p.1.data p.2) = t.map prD := by
        unfold entH
        rw [List.map_map]
        refine List.map_congr_left fun x _ => ?_
        show PyData.tuple [x.1.K.data, .int x.2] = prD x
        rw [Sr.K_data]
        rfl
      dsimp only
      show (((entH t).map fun p => pairD p.1.data p.2).length ≤ 100000 ∧ _)
      rw [el]
      refine ⟨by rw [List.length_map]; omega, comp_fmA (fun x => if x.2 ≠ 0 then some (prD x) else none) (fun i x hx R r => ?_) ?_⟩
      · refine ifn (fun c => ?_) (fun c => ?_)
        · rw [if_pos c] at r
          exact r
        · rw [if_neg (fun z => z c)] at r
          exact r
      · rw [nzH_fm]
        have nl : (nzH t).length ≤ 90000 := Nat.le_trans (List.length_filter_le _ _) tl
        refine sort_prW (Nat.le_trans nl (by decide)) ?_
        rw [e]
        exact q
  · refine for_w (fun a : Option AV × Option AV × Hs => [some (.val (.tuple (l.map prD))), some (.dct false (entH a.2.2)), a.1, a.2.1]) (fun i a => a.2.2 = gatT [] (l.take i)) (none, none, []) rfl rfl (fun i x ⟨z1, z2, t⟩ hx e => ?_) (fun ⟨z1, z2, t⟩ e => ?_)
    · obtain ⟨y, hy, rfl⟩ := map_at hx
      have hi := (List.getElem?_eq_some_iff.mp hy).1
      have e : t = gatT [] (l.take i) := e
      have tl : t.length ≤ i := by
        rw [e]
        refine Nat.le_trans (gatT_len _ _) ?_
        rw [List.length_take]
        simp
        omega
      refine keyS y.1 ?_
      rw [entH_get]
      have : ((getH t y.1).map PyData.int).getD (.int 0) = .int ((getH t y.1).getD 0) := by cases getH t y.1 <;> rfl
      rw [this]
      refine keyS y.1 ⟨?_, (some (.val y.1.D), some (.val (.int y.2)), putH t y.1 ((getH t y.1).getD 0 + y.2)), ?_, ?_⟩
      · unfold entH
        rw [List.length_map]
        exact Nat.lt_of_le_of_lt tl (Nat.lt_of_lt_of_le (show i < 90000 by omega) (by decide))
      · dsimp only
        rw [← entH_put]
        rfl
      · dsimp only
        rw [List.take_add_one, hy, e]
        exact (gatT_snoc _ _ _).symm
    · have e : t = gatT [] (l.take (l.map prD).length) := e
      rw [List.length_map, List.take_length] at e
      have tl : t.length ≤ 90000 := by
        rw [e]
        refine Nat.le_trans (gatT_len _ _) ?_
        simpa using hl
      have el : ((entH t).map fun p => pairD p.1.data p.2) = t.map prD := by
        unfold entH
        rw [List.map_map]
        refine List.map_congr_left fun x _ => ?_
        show PyData.tuple [x.1.K.data, .int x.2] = prD x
        rw [Sr.K_data]
        rfl
      dsimp only
      show (((entH t).map fun p => pairD p.1.data p.2).length ≤ 100000 ∧ _)
      rw [el]
      refine ⟨by rw [List.length_map]; omega, comp_fmA (fun x => if x.2 ≠ 0 then some (prD x) else none) (fun i x hx R r => ?_) ?_⟩
      · refine ifn (fun c => ?_) (fun c => ?_)
        · rw [if_pos c] at r
          exact r
        · rw [if_neg (fun z => z c)] at r
          exact r
      · rw [nzH_fm]
        have nl : (nzH t).length ≤ 90000 := Nat.le_trans (List.length_filter_le _ _) tl
        refine sort_prW (Nat.le_trans nl (by decide)) ?_
        rw [e]
        exact q
theorem vc_gathered {K : PySem.W.Frag} {mg : Str → Option Value} {X : Cx} {p pos : Pos} {e : Expr} {es : List Expr} {po : WAO} (T : Txt K mg) (hq : Quiet X.A) (hr : Room 1 X.A) (ha : QAA X (e :: es) po) (hg : Gl X "gathered" := by rfl)
    (he : starEach (e :: es) X.env = (false, eval e X.env) :: starEach es X.env := by rfl) (hpl : (backTo pos (starEach es X.env)).any (·.1) = false := by rfl) (hK : X.K = K := by rfl) (hmg : X.mg = mg := by rfl) :
    QE X (.Call (.Name "gathered" p) (e :: es) [] pos) (wCall vp_gathered po) := by
  subst hK hmg
  exact q_call (vo_gathered T) hq hr hg T.m_gathered T.F_gathered.kp T.b_gathered ha (by decide) he hpl

end KL
namespace KL
open PySem PySem.Spec PyProof.Rows L2 RZ StX SrtO Kw KM PV
/-! ### numbers, as the law draws them -/
def vp__law_great : PSp := fun as Q => ∃ n : Int, as = [.deck, .val (.int n)] ∧ 1 ≤ n ∧ Bd 1500 n ∧ ∀ v : Int, 0 ≤ v → v < n → Q (.int v)
theorem vo__law_great {P : Program} {w : World} {K : PySem.W.Frag} {mg : Str → Option Value} {base : Heap} (T : Txt K mg) : GFn P w K mg base 2 T.a__law_great T.d__law_great ["_law_deck_here", "_law_top"] (spV K w vp__law_great) := by
  refine fnV T.F__law_great sc__law_great vp__law_great (fun as Q h => ?_) (fun cdv A outer s H E hq hr => (qs_cons (qs_if (qt_le (qvb 1) (q_pow qc_int.b qc_int.b).b) (qs_one (qs_ret (vc__law_draw T hq (hr.mono (by decide)) (qaa_deck 0 (qaa_v (qv 1) qaa_nil))).b)) qs_nil)
    (qs_cons (qs_asgN [2, 3] (qao_v qc_int (qao_v qc_int qao_nil)) (pgs_cons (pg_name (i := 2) sc__law_great.nd rfl (Or.inl rfl)) (pgs_cons (pg_name (i := 3) sc__law_great.nd rfl (Or.inl rfl)) pgs_nil)))
    (qs_cons (qs_while PassesOwn.never (qt_lt (qvb 3) (qvb 1)) (qs_one (qs_par (i := 2) (j := 3) sc__law_great.nd rfl rfl (by decide) rfl rfl (qao_v (q_add (q_mul (qvb 2) (q_pow qc_int.b qc_int.b).b).b (vc__law_draw T hq (hr.mono (by decide)) (qaa_deck 0 (qaa_v (q_pow qc_int.b qc_int.b) qaa_nil))).b) (qao_v (q_mul (qvb 3) (q_pow qc_int.b qc_int.b).b) qao_nil)) (by rfl))))
    (qs_one (qs_ret (q_mod (qvb 2) (qvb 1)).b)))))) (fun as Q h => ?_)
  · obtain ⟨n, rfl, h1, h2, q⟩ := h
    rfl
  obtain ⟨n, rfl, h1, h2, q⟩ := h
  refine And.intro ⟨by decide, by decide, by decide⟩ (ifd (fun c => ?_) (fun c => ?_))
  · exact ⟨n, rfl, h1, h2.mono (by decide), q⟩
  refine And.intro rfl ?_
  refine while_w (fun a : Int × Nat => [some .deck, some (.val (.int n)), some (.val (.int a.1)), some (.val (.int (a.2 : Int)))]) (fun a => 1 ≤ a.2 ∧ 0 ≤ a.1 ∧ a.1 < a.2 ∧ (a.2 : Int) < n * 1000000) (fun a => (n - a.2).toNat) (0, 1) rfl ⟨by decide, by decide, by decide, by omega⟩ fun ⟨x, r⟩ ⟨r1, x0, xr, rn⟩ => ?_
  have hb : Bd 1520 (n * 1000000) := Bd.mul (b := 20) h2 (by unfold Bd; decide)
  have br : Bd 1520 (r : Int) := Bd.le (by omega) (by omega) hb
  have bx : Bd 1520 x := Bd.le x0 (by omega) hb
  have m6 : Bd 20 (1000000 : Int) := by unfold Bd; decide
  refine ifd (fun c => ?_) (fun c => ?_)
  · have e6 : (10 : Int) ^ Int.toNat 6 = 1000000 := by decide
    have p6 : CPow 10 6 := ⟨by decide, by decide, by decide⟩
    refine And.intro p6 ?_
    have go : ∀ B : Int, B = 1000000 → CMulW x B ∧ CMulW (r : Int) B := fun B e => by subst e; exact ⟨bx.mulOk m6, br.mulOk m6⟩
    refine And.intro (go _ e6).1 (And.intro p6 ⟨_, rfl, by decide, bd_small (by decide) (by decide), fun v v0 v1 => And.intro p6 (And.intro (go _ e6).2 (And.intro rfl ⟨(x * 1000000 + v, r * 1000000), ?_, ⟨?_, ?_, ?_, ?_⟩, ?_⟩))⟩)
    · dsimp only
      rw [Int.natCast_mul]
      show _ = [some AV.deck, _, some (.val (.int (x * 1000000 + v))), some (.val (.int ((r : Int) * 1000000)))]
      rw [← e6]
      rfl
    all_goals
      rw [e6] at v1
      dsimp only at r1 x0 xr rn c ⊢
      omega
  · exact ⟨by omega, q _ (Int.emod_nonneg _ (by omega)) (Int.emod_lt_of_pos _ (by omega))⟩
theorem vc__law_great {K : PySem.W.Frag} {mg : Str → Option Value} {X : Cx} {p pos : Pos} {e : Expr} {es : List Expr} {po : WAO} (T : Txt K mg) (hq : Quiet X.A) (hr : Room 2 X.A) (ha : QAA X (e :: es) po) (hg : Gl X "_law_great" := by rfl)
    (he : starEach (e :: es) X.env = (false, eval e X.env) :: starEach es X.env := by rfl) (hpl : (backTo pos (starEach es X.env)).any (·.1) = false := by rfl) (hK : X.K = K := by rfl) (hmg : X.mg = mg := by rfl) :
    QE X (.Call (.Name "_law_great" p) (e :: es) [] pos) (wCall vp__law_great po) := by
  subst hK hmg
  exact q_call (vo__law_great T) hq hr hg T.m__law_great T.F__law_great.kp T.b__law_great ha (by decide) he hpl

def vp__law_signed : PSp := fun as Q => ∃ n : Int, as = [.deck, .val (.int n)] ∧ 5 ≤ n ∧ Bd 1500 n ∧ ∀ v : Int, -n < v → v < n → Q (.int v)
theorem vo__law_signed {P : Program} {w : World} {K : PySem.W.Frag} {mg : Str → Option Value} {base : Heap} (T : Txt K mg) : GFn P w K mg base 3 T.a__law_signed T.d__law_signed ["_law_deck_here", "_law_top"] (spV K w vp__law_signed) := by
  refine fnV T.F__law_signed sc__law_signed vp__law_signed (fun as Q h => ?_) (fun cdv A outer s H E hq hr => (qs_cons (qs_set 2 sc__law_signed.nd rfl (Or.inl rfl) (vc__law_draw T hq (hr.mono (by decide)) (qaa_deck 0 (qaa_v qc_int qaa_nil))))
    (qs_cons (qs_if (qt_eq hr.units (qvb 2) qc_int.b) (qs_one (qs_ret (q_sub (vc__law_draw T hq (hr.mono (by decide)) (qaa_deck 0 (qaa_v qc_int qaa_nil))).b qc_int.b).b)) qs_nil)
    (qs_cons (qs_set 3 sc__law_signed.nd rfl (Or.inl rfl) (q_if (qt_eq hr.units (qvb 2) qc_int.b) (q_sub (q_sub (qvb 1) qc_int.b).b (vc__law_draw T hq (hr.mono (by decide)) (qaa_deck 0 (qaa_v qc_int qaa_nil))).b) (vc__law_great T hq (hr.mono (by decide)) (qaa_deck 0 (qaa_v (qv 1) qaa_nil)))))
    (qs_one (qs_ret (q_if (qt_eq hr.units (vc__law_draw T hq (hr.mono (by decide)) (qaa_deck 0 (qaa_v qc_int qaa_nil))).b qc_int.b) (qv 3) (q_neg (qv 3))).b)))))) (fun as Q h => ?_)
  · obtain ⟨n, rfl, h1, h2, q⟩ := h
    rfl
  obtain ⟨n, rfl, h1, h2, q⟩ := h
  refine ⟨5, rfl, by decide, bd_small (by decide) (by decide), fun w w0 w1 => ?_⟩
  refine ifd (fun c => ?_) (fun c => ?_)
  · exact ⟨9, rfl, by decide, bd_small (by decide) (by decide), fun v v0 v1 => q _ (by omega) (by omega)⟩
  have fin : ∀ u : Int, -n < u → u < n → ∀ R : PyData → Prop, (R (.int u)) → R (.int u) := fun _ _ _ _ h => h
  refine ifd (fun c => ?_) (fun c => ?_)
  · refine ⟨3, rfl, by decide, bd_small (by decide) (by decide), fun u u0 u1 => ?_⟩
    refine ⟨2, rfl, by decide, bd_small (by decide) (by decide), fun v v0 v1 => ?_⟩
    exact ifd (fun _ => q _ (by omega) (by omega)) (fun _ => q _ (by omega) (by omega))
  · refine ⟨n, rfl, by omega, h2, fun u u0 u1 => ?_⟩
    refine ⟨2, rfl, by decide, bd_small (by decide) (by decide), fun v v0 v1 => ?_⟩
    exact ifd (fun _ => q _ (by omega) (by omega)) (fun _ => q _ (by omega) (by omega))
theorem vc__law_signed {K : PySem.W.Frag} {mg : Str → Option Value} {X : Cx} {p pos : Pos} {e : Expr} {es : List Expr} {po : WAO} (T : Txt K mg) (hq : Quiet X.A) (hr : Room 3 X.A) (ha : QAA X (e :: es) po) (hg : Gl X "_law_signed" := by rfl)
    (he : starEach (e :: es) X.env = (false, eval e X.env) :: starEach es X.env := by rfl) (hpl : (backTo pos (starEach es X.env)).any (·.1) = false := by rfl) (hK : X.K = K := by rfl) (hmg : X.mg = mg := by rfl) :
    QE X (.Call (.Name "_law_signed" p) (e :: es) [] pos) (wCall vp__law_signed po) := by
  subst hK hmg
  exact q_call (vo__law_signed T) hq hr hg T.m__law_signed T.F__law_signed.kp T.b__law_signed ha (by decide) he hpl

theorem prodI_take_snoc {ns : List Nat} {i n : Nat} (h : ns[i]? = some n) : prodI (ns.take (i + 1)) = prodI (ns.take i) * n := by
  rw [List.take_add_one, h]
  show prodI (ns.take i ++ [n]) = _
  rw [prodI_perm (List.perm_append_comm (l₁ := ns.take i) (l₂ := [n]))]
  show prodI (n :: ns.take i) = _
  rw [prodI_cons, Nat.mul_comm]
theorem prodI_one {ns : List Nat} (h : ∀ n ∈ ns, 1 ≤ n) : 1 ≤ prodI ns := by
  induction ns with
  | nil => exact Nat.le_refl 1
  | cons n r ih =>
    rw [prodI_cons]
    exact Nat.mul_le_mul (h n List.mem_cons_self) (ih fun x hx => h x (List.mem_cons_of_mem _ hx))
theorem prodI_append (a b : List Nat) : prodI (a ++ b) = prodI a * prodI b := by
  induction a with
  | nil => show prodI b = 1 * _; rw [Nat.one_mul]
  | cons x r ih => rw [List.cons_append, prodI_cons, prodI_cons, ih, Nat.mul_assoc]
def vp__law_product : PSp := fun as Q => ∃ ns : List Nat, as = [.val (.list (intsD (intsN ns)))] ∧ (∀ n ∈ ns, 1 ≤ n) ∧ Bd 1900 ((prodI ns : Nat) : Int) ∧ Q (.int ((prodI ns : Nat) : Int))
theorem vo__law_product {P : Program} {w : World} {K : PySem.W.Frag} {mg : Str → Option Value} {base : Heap} (T : Txt K mg) : GFn P w K mg base 1 T.a__law_product T.d__law_product ["_law_some"] (spV K w vp__law_product) := by
  refine fnV T.F__law_product sc__law_product vp__law_product (fun as Q h => ?_) (fun cdv A outer s H E hq hr => (qs_cons (qs_set 1 sc__law_product.nd rfl (Or.inl rfl) qc_int)
    (qs_cons (qs_for PassesOwn.never (qi_seq (qv 0)) (QGn.g (vs := [2]) (qg_name 2 sc__law_product.nd rfl (Or.inl rfl))) (qs_one (qs_set 1 sc__law_product.nd rfl (Or.inl rfl) (q_mul (qvb 1) (qvb 2)))))
    (qs_one (qs_ret (qvb 1)))))) (fun as Q h => ?_)
  · obtain ⟨ns, rfl, h1, h2, q⟩ := h
    rfl
  obtain ⟨ns, rfl, h1, h2, q⟩ := h
  refine for_w (ds := intsD (intsN ns)) (fun a : Nat × Option AV => [some (.val (.list (intsD (intsN ns)))), some (.val (.int (a.1 : Int))), a.2]) (fun i a => a.1 = prodI (ns.take i)) (1, none) rfl rfl (fun i x ⟨r, z⟩ hx e => ?_) (fun ⟨r, z⟩ e => ?_)
  · obtain ⟨c, hc, rfl⟩ := intsD_at (cs := intsN ns) hx
    rw [List.getElem?_map] at hc
    obtain ⟨n, hn, rfl⟩ := Option.map_eq_some_iff.mp hc
    have e : r = prodI (ns.take i) := e
    have step : prodI (ns.take (i + 1)) = r * n := by rw [prodI_take_snoc hn, e]
    have le : r * n ≤ prodI ns := by
      rw [← step]
      have : prodI ns = prodI (ns.take (i + 1)) * prodI (ns.drop (i + 1)) := by rw [← prodI_append, List.take_append_drop]
      rw [this]
      exact Nat.le_mul_of_pos_right _ (prodI_one fun x hx => h1 x (List.mem_of_mem_drop hx))
    have n1 := h1 n (List.mem_of_getElem? hn)
    have r1 : 1 ≤ r := by rw [e]; exact prodI_one fun x hx => h1 x (List.mem_of_mem_take hx)
    have rB : Bd 1900 (r : Int) := by
      refine Bd.le (by omega) ?_ h2
      have := Nat.le_mul_of_pos_right r n1
      omega
    have nB : Bd 1900 (n : Int) := by
      refine Bd.le (by omega) ?_ h2
      have := Nat.le_mul_of_pos_left n r1
      omega
    refine ⟨rB.mulOk nB, (r * n, some (.val (.int (n : Int)))), ?_, step.symm⟩
    dsimp only
    rw [Int.natCast_mul]
    rfl
  · have e : r = prodI (ns.take (intsD (intsN ns)).length) := e
    rw [show (intsD (intsN ns)).length = ns.length by simp [intsD, intsN], List.take_length] at e
    subst e
    exact q
theorem vc__law_product {K : PySem.W.Frag} {mg : Str → Option Value} {X : Cx} {p pos : Pos} {e : Expr} {es : List Expr} {po : WAO} (T : Txt K mg) (hq : Quiet X.A) (hr : Room 1 X.A) (ha : QAA X (e :: es) po) (hg : Gl X "_law_product" := by rfl)
    (he : starEach (e :: es) X.env = (false, eval e X.env) :: starEach es X.env := by rfl) (hpl : (backTo pos (starEach es X.env)).any (·.1) = false := by rfl) (hK : X.K = K := by rfl) (hmg : X.mg = mg := by rfl) :
    QE X (.Call (.Name "_law_product" p) (e :: es) [] pos) (wCall vp__law_product po) := by
  subst hK hmg
  exact q_call (vo__law_product T) hq hr hg T.m__law_product T.F__law_product.kp T.b__law_product ha (by decide) he hpl

end KL
namespace KL
open PySem PySem.Spec PyProof.Rows L2 RZ StX SrtO Kw KM PV
/-! ### prime powers, as the law draws them -/
theorem pick_int {ns : List Int} {d : PyData} (h : d ∈ intsD ns) : ∃ n ∈ ns, d = .int n := by
  obtain ⟨n, hn, rfl⟩ := List.mem_map.mp h
  exact ⟨n, hn, rfl⟩
theorem pick_nat {ns : List Nat} {d : PyData} (h : d ∈ intsD (intsN ns)) : ∃ n ∈ ns, d = .int (n : Int) := by
  obtain ⟨n, hn, rfl⟩ := pick_int h
  obtain ⟨m, hm, rfl⟩ := List.mem_map.mp hn
  exact ⟨m, hm, rfl⟩
def pqD (x : Nat × Nat) : PyData := .tuple [.int (x.1 : Int), .int ((qOf x : Nat) : Int)]
theorem ixw {v : Int} (v0 : 0 ≤ v) (v4 : v < 4) {Q : PyData → Prop} (q : ∀ k : Int, 1 ≤ k → k ≤ 140 → Q (.int k)) : oIx (.list [.int 1, .int 3, .int 14, .int 140]) (.int v) Q := by
  obtain rfl | rfl | rfl | rfl : v = 0 ∨ v = 1 ∨ v = 2 ∨ v = 3 := by omega
  · exact q _ (by decide) (by decide)
  · exact q _ (by decide) (by decide)
  · exact q _ (by decide) (by decide)
  · exact q _ (by decide) (by decide)
theorem len_ints (ns : List Nat) : (intsD (intsN ns)).length = ns.length := by simp [intsD, intsN]
theorem ints_snoc (ns : List Nat) (p : Nat) : intsD (intsN (ns ++ [p])) = intsD (intsN ns) ++ [.int (p : Int)] := by
  unfold intsN intsD
  rw [List.map_append, List.map_append]
  rfl
theorem at_st {p : WS} {E : WEnds} {Γ : VEnv} (Δ : VEnv) (e : Γ = Δ) (h : p E Δ) : p E Γ := e ▸ h
theorem range_len (n : Nat) : (rangeD 0 n).length = n := by simp [rangeD]
def vp__law_powers : PSp := fun as Q => ∃ top most : Nat, as = [.deck, .val (.int (top : Int)), .val (.int (most : Int))] ∧ 2 ≤ top ∧ top ≤ 10 ^ 40 ∧ most ≤ 1000 ∧ ∀ pw : List (Nat × Nat), PerD pw → Q (.list (pw.map pqD))
theorem vo__law_powers {P : Program} {w : World} {K : PySem.W.Frag} {mg : Str → Option Value} {base : Heap} (T : Txt K mg) : GFn P w K mg base 3 T.a__law_powers T.d__law_powers ["_law_deck_here", "_law_top", "_law_most"] (spV K w vp__law_powers) := by
  refine fnV T.F__law_powers sc__law_powers vp__law_powers (fun as Q h => ?_) (fun cdv A outer s H E hq hr => (qs_cons (qs_asgN [3, 4, 5, 6] (qao_v (q_lstL (ql_cons qc_int (ql_cons qc_int (ql_cons qc_int (ql_cons qc_int (ql_cons qc_int (ql_cons qc_int (ql_cons qc_int (ql_cons qc_int (ql_cons qc_int (ql_cons qc_int (ql_cons qc_int (ql_cons qc_int ql_nil))))))))))))).e (qao_v qc_int (qao_v (qv 2) (qao_n (q_lstL ql_nil) qao_nil)))) (pgs_cons (pg_name (i := 3) sc__law_powers.nd rfl (Or.inl rfl)) (pgs_cons (pg_name (i := 4) sc__law_powers.nd rfl (Or.inl rfl)) (pgs_cons (pg_name (i := 5) sc__law_powers.nd rfl (Or.inl rfl)) (pgs_cons (pg_name (i := 6) sc__law_powers.nd rfl (Or.inl rfl)) pgs_nil)))))
    (qs_cons (qs_set 7 sc__law_powers.nd rfl (Or.inl rfl) (vc__law_draw T hq (hr.mono (by decide)) (qaa_deck 0 (qaa_v qc_int qaa_nil))))
    (qs_cons (qs_for PassesOwn.never (qi_range1 (by rfl) T.n_range (vc__law_pick T hq (hr.mono (by decide)) (qaa_deck 0 (qaa_v (q_lstL (ql_cons qc_int (ql_cons qc_int (ql_cons qc_int (ql_cons qc_int (ql_cons qc_int (ql_cons qc_int (ql_cons qc_int (ql_cons qc_int (ql_cons qc_int ql_nil)))))))))).e qaa_nil)))) (QGn.g (vs := [8]) (qg_name 8 sc__law_powers.nd rfl (Or.inl rfl))) (qs_cons (qs_set 9 sc__law_powers.nd rfl (Or.inl rfl) (vc__law_pick T hq (hr.mono (by decide)) (qaa_deck 0 (qaa_v (qv 3) qaa_nil))))
        (qs_one (qs_if (qw_and (qt_notIn (qvb 9) (qvb 6)) (qw_and (qt_le (qvb 9) (qvb 5)) (qw_and1 (qt_lt (q_mul (qvb 4) (qvb 9)).b (qvb 1))))).t (qs_cons (qs_append 6 (qv 9))
            (qs_one (qs_par (i := 4) (j := 5) sc__law_powers.nd rfl rfl (by decide) rfl rfl (qao_v (q_mul (qvb 4) (qvb 9)) (qao_v (q_fdiv (qvb 5) (qvb 9)) qao_nil)) (by rfl)))) qs_nil))))
    (qs_rest [6] (qs_cons (qs_setN 10 sc__law_powers.nd rfl (Or.inl rfl) (q_lstL ql_nil))
    (qs_cons (qs_for PassesOwn.never (qi_seq (q_BN cr_sortedI lcn_sortI (by rfl) T.n_sorted (by decide +kernel) (qab_cons (qvb 6) qab_nil)).e) (QGn.g (vs := [9]) (qg_name 9 sc__law_powers.nd rfl (Or.inl rfl))) (qs_cons (qs_set 11 sc__law_powers.nd rfl (Or.inl rfl) (qv 9))
        (qs_cons (qs_for PassesOwn.never (qi_range1 (by rfl) T.n_range (vc__law_draw T hq (hr.mono (by decide)) (qaa_deck 0 (qaa_v (q_ix (q_lstL (ql_cons qc_int (ql_cons qc_int (ql_cons qc_int (ql_cons qc_int ql_nil))))).e.b (qvb 7)) qaa_nil)))) (QGn.g (vs := [8]) (qg_name 8 sc__law_powers.nd rfl (Or.inl rfl))) (qs_one (qs_if (qt_lt (q_mul (qvb 4) (qvb 9)).b (qvb 1)) (qs_one (qs_par (i := 11) (j := 4) sc__law_powers.nd rfl rfl (by decide) rfl rfl (qao_v (q_mul (qvb 11) (qvb 9)) (qao_v (q_mul (qvb 4) (qvb 9)) qao_nil)) (by rfl))) qs_nil)))
        (qs_one (qs_append 10 (q_tupL (ql_cons (qv 9) (ql_cons (qv 11) ql_nil))))))))
    (qs_rest [10] (qs_one (qs_ret (qvb 10))))))))))) (fun as Q h => ?_)
  · obtain ⟨top, most, rfl, ht, h40, hm, q⟩ := h
    rfl
  obtain ⟨top, most, rfl, ht, h40, hm, q⟩ := h
  refine And.intro rfl ⟨4, rfl, by decide, bd_small (by decide) (by decide), fun w w0 w1 => ?_⟩
  refine ⟨_, rfl, by show 1 ≤ 9; decide, by show 9 ≤ 1000; decide, fun l hl => ?_⟩
  obtain ⟨n, hn, rfl⟩ := pick_int (ns := [0, 1, 1, 2, 2, 3, 4, 6, 6]) hl
  have n6 : 0 ≤ n ∧ n ≤ 6 := by
    simp only [List.mem_cons, List.not_mem_nil, or_false] at hn
    omega
  clear hl hn
  have tB : Bd 140 (top : Int) := by
    have e40 : 10 ^ 40 < 2 ^ 140 := by decide +kernel
    unfold Bd
    rw [Int.natAbs_natCast]
    omega
  refine And.intro ⟨by omega, by omega⟩ ?_
  refine for_w (ds := rangeD 0 n.toNat) (fun a : List Nat × Nat × Nat × Option AV × Option AV => [some .deck, some (.val (.int (top : Int))), some (.val (.int (most : Int))), some (.val (.list (intsD (intsN SOME)))), some (.val (.int (a.2.1 : Int))), some (.val (.int (a.2.2.1 : Int))), some (.lst (intsD (intsN a.1))), some (.val (.int w)), a.2.2.2.1, a.2.2.2.2, none, none])
    (fun i a => (a.1.Nodup ∧ (∀ p ∈ a.1, p ∈ PN) ∧ a.2.1 = prodI a.1) ∧ a.2.1 ≤ 1000 ∧ a.2.1 * a.2.2.1 ≤ most ∧ a.2.1 < top ∧ a.1.length ≤ i ∧ 1 ≤ a.2.1) ([], 1, most, none, none) rfl ⟨⟨List.nodup_nil, fun _ h => absurd h List.not_mem_nil, rfl⟩, by dsimp only; omega, by dsimp only; omega, by dsimp only; omega, Nat.le_refl _, Nat.le_refl _⟩
    (fun i x ⟨fl, pr, rs, z1, z2⟩ hx ⟨⟨h1, h2, h3⟩, h4, h5, h6, h7, h8⟩ => ?_) (fun ⟨fl, pr, rs, z1, z2⟩ ⟨⟨h1, h2, h3⟩, h4, h5, h6, h7, h8⟩ => ?_)
  · refine ⟨_, rfl, by decide, by decide, fun d hd => ?_⟩
    obtain ⟨p, hp, rfl⟩ := pick_nat (ns := SOME) hd
    have hp := SOME_PN p hp
    have p2 := PN_lt p hp
    dsimp only at h1 h2 h3 h4 h5 h6 h7 h8
    have prB : Bd 30 (pr : Int) := bd_small (by omega) (by decide)
    have pB : Bd 30 (p : Int) := bd_small (by omega) (by decide)
    have stay : ∃ a' : List Nat × Nat × Nat × Option AV × Option AV, [some AV.deck, some (.val (.int (top : Int))), some (.val (.int (most : Int))), some (.val (.list (intsD (intsN SOME)))), some (.val (.int (pr : Int))), some (.val (.int (rs : Int))), some (.lst (intsD (intsN fl))), some (.val (.int w)), some (.val x), some (.val (.int (p : Int))), none, none] = [some .deck, some (.val (.int (top : Int))), some (.val (.int (most : Int))), some (.val (.list (intsD (intsN SOME)))), some (.val (.int (a'.2.1 : Int))), some (.val (.int (a'.2.2.1 : Int))), some (.lst (intsD (intsN a'.1))), some (.val (.int w)), a'.2.2.2.1, a'.2.2.2.2, none, none] ∧ (a'.1.Nodup ∧ (∀ p ∈ a'.1, p ∈ PN) ∧ a'.2.1 = prodI a'.1) ∧ a'.2.1 ≤ 1000 ∧ a'.2.1 * a'.2.2.1 ≤ most ∧ a'.2.1 < top ∧ a'.1.length ≤ i + 1 ∧ 1 ≤ a'.2.1 :=
      ⟨(fl, pr, rs, some (.val x), some (.val (.int (p : Int)))), rfl, ⟨h1, h2, h3⟩, h4, h5, h6, Nat.le_succ_of_le h7, h8⟩
    refine ⟨intsN fl, rfl, ifn (fun c2 => ifd (fun c3 => And.intro (prB.mulOk pB) (ifd (fun c4 => ?_) (fun _ => stay))) (fun _ => stay)) (fun _ => stay)⟩
    have nm : p ∉ fl := fun z => c2 (List.mem_map_of_mem (f := fun p : Nat => (p : Int)) z)
    dsimp only at c3 c4
    have c3 : p ≤ rs := by omega
    have c4 : pr * p < top := by
      rw [← Int.natCast_mul] at c4
      omega
    have i6 : i < 6 := by
      have := (List.getElem?_eq_some_iff.mp hx).1
      rw [range_len] at this
      omega
    have fn : (intsD (intsN fl)).length < 100000 := by
      rw [len_ints]
      omega
    have le1 : pr * p ≤ pr * rs := Nat.mul_le_mul_left _ c3
    have le2 : pr * p * (rs / p) ≤ pr * rs := by
      rw [Nat.mul_assoc]
      exact Nat.mul_le_mul_left _ (Nat.mul_div_le rs p)
    refine And.intro (Nat.lt_of_lt_of_le fn (by decide)) (And.intro (prB.mulOk pB) (And.intro (Bd.divOk (b := 30) (by omega) pB (by decide) _) (And.intro rfl ⟨(fl ++ [p], pr * p, rs / p, some (.val x), some (.val (.int (p : Int)))), ?_, ⟨?_, ?_, ?_⟩, ?_, ?_, ?_, ?_, ?_⟩)))
    · dsimp only
      rw [ints_snoc, Int.natCast_mul, Int.natCast_ediv]
      rfl
    · exact L2.nd_snoc h1 nm
    · intro z hz
      rcases List.mem_append.mp hz with hz | hz
      · exact h2 z hz
      · rw [List.mem_singleton.mp hz]
        exact hp
    · show pr * p = _
      rw [prodI_snoc, h3]
    · show pr * p ≤ 1000
      omega
    · show pr * p * (rs / p) ≤ most
      omega
    · exact c4
    · show (fl ++ [p]).length ≤ i + 1
      rw [List.length_append]
      exact Nat.succ_le_succ h7
    · show 1 ≤ pr * p
      exact Nat.mul_le_mul h8 (by omega : 1 ≤ p)
  dsimp only at h1 h2 h3 h4 h5 h6 h7 h8
  refine at_st [some .deck, some (.val (.int (top : Int))), some (.val (.int (most : Int))), some (.val (.list (intsD (intsN SOME)))), some (.val (.int (pr : Int))), some (.val (.int (rs : Int))), some (.lst (intsD (intsN fl))), some (.val (.int w)), z1, z2, none, none] rfl ?_
  refine ⟨intsN fl, rfl, fun ns' hp hs => ?_⟩
  obtain ⟨S, rfl, hS⟩ := perm_nat hp
  have Snd : S.Nodup := hS.nodup_iff.mpr h1
  have Sasc : S.Pairwise (· < ·) := by
    have a := List.pairwise_map.mp hs
    refine (a.and Snd).imp fun {x y} h => ?_
    have := h.1
    have := h.2
    omega
  have SPN : S.Sublist PN := sub_of_asc (by decide) Sasc fun x hx => h2 x (hS.mem_iff.mp hx)
  have Sl : S.length ≤ 10 := by simpa [PN] using SPN.length_le
  have Spr : prodI S = pr := by rw [prodI_perm hS, ← h3]
  have S1 : ∀ p ∈ S, 1 ≤ p := fun p hp => by have := PN_lt p (SPN.subset hp); omega
  refine for_w (ds := intsD (intsN S)) (fun a : List (Nat × Nat) × Nat × Option AV × Option AV × Option AV => [some .deck, some (.val (.int (top : Int))), some (.val (.int (most : Int))), some (.val (.list (intsD (intsN SOME)))), some (.val (.int (a.2.1 : Int))), some (.val (.int (rs : Int))), some (.val (.list (intsD (intsN fl)))), some (.val (.int w)), a.2.2.1, a.2.2.2.1, some (.lst (a.1.map pqD)), a.2.2.2.2])
    (fun i a => a.1.map (·.1) = S.take i ∧ (∀ x ∈ a.1, 1 ≤ x.2) ∧ a.2.1 = mOf a.1 * prodI (S.drop i) ∧ a.2.1 < top) ([], pr, z1, z2, none) rfl ⟨rfl, fun _ h => absurd h List.not_mem_nil, by show pr = 1 * prodI S; rw [Nat.one_mul, Spr], h6⟩
    (fun i x ⟨L, pz, y1, y2, y3⟩ hx ⟨k1, k2, k3, k4⟩ => ?_) (fun ⟨L, pz, y1, y2, y3⟩ ⟨k1, k2, k3, k4⟩ => ?_)
  · obtain ⟨c, hc, rfl⟩ := intsD_at (cs := intsN S) hx
    rw [List.getElem?_map] at hc
    obtain ⟨p, hp, rfl⟩ := Option.map_eq_some_iff.mp hc
    have hpP := SPN.subset (List.mem_of_getElem? hp)
    have p2 := PN_lt p hpP
    dsimp only at k1 k2 k3 k4
    have Ll : L.length ≤ 10 := by
      have := congrArg List.length k1
      rw [List.length_map, List.length_take] at this
      omega
    have il : i < S.length := (List.getElem?_eq_some_iff.mp hp).1
    have pB : Bd 30 (p : Int) := bd_small (by omega) (by decide)
    obtain ⟨R, hR⟩ : ∃ R, prodI (S.drop (i + 1)) = R := ⟨_, rfl⟩
    have R1 : 1 ≤ R := by rw [← hR]; exact prodI_one fun x hx => S1 x (List.mem_of_mem_drop hx)
    have ed : prodI (S.drop i) = p * R := by
      have hp' : S[i] = p := by
        have := List.getElem?_eq_getElem il
        rw [this] at hp
        exact Option.some.inj hp
      rw [List.drop_eq_getElem_cons il, prodI_cons, hp', hR]
    rw [ed] at k3
    refine ixw w0 w1 fun kk kk1 kk2 => ⟨kk, rfl, kk1, bd_small (by omega) (by decide), fun t t0 t1 => And.intro ⟨by omega, by omega⟩ ?_⟩
    refine for_w (ds := rangeD 0 t.toNat) (fun a : Nat × Nat × Option AV => [some .deck, some (.val (.int (top : Int))), some (.val (.int (most : Int))), some (.val (.list (intsD (intsN SOME)))), some (.val (.int (a.2.1 : Int))), some (.val (.int (rs : Int))), some (.val (.list (intsD (intsN fl)))), some (.val (.int w)), a.2.2, some (.val (.int (p : Int))), some (.lst (L.map pqD)), some (.val (.int ((p ^ a.1 : Nat) : Int)))])
      (fun i a => 1 ≤ a.1 ∧ a.2.1 = mOf L * (p ^ a.1 * R) ∧ a.2.1 < top) (1, pz, y1) (by rw [Nat.pow_one]; rfl) ⟨Nat.le_refl _, by dsimp only; rw [Nat.pow_one]; exact k3, k4⟩ (fun i' x ⟨j, u, z⟩ hx ⟨g1, g2, g3⟩ => ?_) (fun ⟨j, u, z⟩ ⟨g1, g2, g3⟩ => ?_)
    · dsimp only at g1 g2 g3
      have uB : Bd 140 (u : Int) := Bd.le (by omega) (by omega) tB
      have le : p ^ j ≤ u := by
        have m1 : 1 ≤ mOf L := by
          refine mOf_pos ⟨?_, k2⟩
          rw [k1]
          exact (List.take_sublist _ _).trans SPN
        rw [g2]
        exact Nat.le_trans (Nat.le_mul_of_pos_right _ R1) (Nat.le_mul_of_pos_left _ m1)
      have qB : Bd 140 ((p ^ j : Nat) : Int) := Bd.le (by omega) (by omega) uB
      have eq : ((p ^ j : Nat) : Int) * (p : Int) = ((p ^ (j + 1) : Nat) : Int) := by rw [Nat.pow_succ, Int.natCast_mul]
      refine And.intro (uB.mulOk pB) (ifd (fun c => ?_) (fun c => ?_))
      · dsimp only at c
        rw [← Int.natCast_mul] at c
        refine And.intro (qB.mulOk pB) (And.intro (uB.mulOk pB) (And.intro rfl ⟨(j + 1, u * p, some (.val x)), ?_, by dsimp only; omega, ?_, by dsimp only; omega⟩))
        · dsimp only
          rw [← eq, Int.natCast_mul]
          rfl
        · show u * p = mOf L * (p ^ (j + 1) * R)
          rw [g2, Nat.pow_succ, Nat.mul_assoc, Nat.mul_assoc, Nat.mul_assoc, Nat.mul_comm R p]
      · exact ⟨(j, u, some (.val x)), rfl, g1, g2, g3⟩
    · dsimp only at g1 g2 g3
      refine And.intro (by rw [List.length_map]; exact Nat.lt_of_le_of_lt Ll (by decide)) ⟨(L ++ [(p, j)], u, z, some (.val (.int (p : Int))), some (.val (.int ((p ^ j : Nat) : Int)))), ?_, ?_, ?_, ?_, g3⟩
      · dsimp only
        rw [List.map_append]
        rfl
      · show (L ++ [(p, j)]).map (·.1) = S.take (i + 1)
        rw [List.map_append, k1, List.take_add_one, hp]
        rfl
      · intro z hz
        rcases List.mem_append.mp hz with hz | hz
        · exact k2 z hz
        · rw [List.mem_singleton.mp hz]
          exact g1
      · show u = mOf (L ++ [(p, j)]) * prodI (S.drop (i + 1))
        rw [mOf_append, hR, g2, Nat.mul_assoc]
  · dsimp only at k1 k2 k3 k4
    rw [len_ints, List.take_length] at k1
    rw [len_ints, List.drop_length] at k3
    have k3 : pz = mOf L * 1 := k3
    exact q L ⟨⟨by rw [k1]; exact SPN, k2⟩, by rw [prodP_map, k1, Spr]; exact h4, by omega⟩
theorem vc__law_powers {K : PySem.W.Frag} {mg : Str → Option Value} {X : Cx} {p pos : Pos} {e : Expr} {es : List Expr} {po : WAO} (T : Txt K mg) (hq : Quiet X.A) (hr : Room 3 X.A) (ha : QAA X (e :: es) po) (hg : Gl X "_law_powers" := by rfl)
    (he : starEach (e :: es) X.env = (false, eval e X.env) :: starEach es X.env := by rfl) (hpl : (backTo pos (starEach es X.env)).any (·.1) = false := by rfl) (hK : X.K = K := by rfl) (hmg : X.mg = mg := by rfl) :
    QE X (.Call (.Name "_law_powers" p) (e :: es) [] pos) (wCall vp__law_powers po) := by
  subst hK hmg
  exact q_call (vo__law_powers T) hq hr hg T.m__law_powers T.F__law_powers.kp T.b__law_powers ha (by decide) he hpl

end KL
namespace KL
open PySem PySem.Spec PyProof.Rows L2 RZ StX SrtO Kw KM PV
/-! ### units; the numbers of a stripe -/
theorem PerD.bd {pw : List (Nat × Nat)} (h : PerD pw) : Bd 133 ((mOf pw : Nat) : Int) := by
  have hlt := h.lt
  have e40 : 10 ^ 40 < 2 ^ 133 := by decide +kernel
  unfold Bd
  rw [Int.natAbs_natCast]
  omega
def vp__law_unit : PSp := fun as Q => ∃ pw : List (Nat × Nat), as = [.deck, .val (.list (pw.map pqD)), .val (.int ((mOf pw : Nat) : Int))] ∧ PerD pw ∧ ∀ u : Nat, (∀ x ∈ pw, ¬ x.1 ∣ u) → Bd 200 (u : Int) → Q (.int (u : Int))
theorem vo__law_unit {P : Program} {w : World} {K : PySem.W.Frag} {mg : Str → Option Value} {base : Heap} (T : Txt K mg) : GFn P w K mg base 3 T.a__law_unit T.d__law_unit ["_law_deck_here", "_law_powers_here", "_law_m"] (spV K w vp__law_unit) := by
  refine fnV T.F__law_unit sc__law_unit vp__law_unit (fun as Q h => ?_) (fun cdv A outer s H E hq hr => (qs_cons (qs_set 3 sc__law_unit.nd rfl (Or.inl rfl) (vc__law_great T hq (hr.mono (by decide)) (qaa_deck 0 (qaa_v (qv 2) qaa_nil))))
    (qs_cons (qs_for PassesOwn.never (qi_seq (qv 1)) (QGn.g (vs := [4, 5]) (qg_tup (qgs_cons (qg_name 4 sc__law_unit.nd rfl (Or.inl rfl)) (qgs_cons (qg_name 5 sc__law_unit.nd rfl (Or.inl rfl)) qgs_nil)))) (qs_one (qs_if (qt_eq hr.units (q_mod (q_Ty call_int1 lc_int (by rfl) T.n_int (by decide +kernel) (qab_cons (qvb 3) qab_nil)).b (qvb 4)).b qc_int.b) (qs_one (qs_set 3 sc__law_unit.nd rfl (Or.inl rfl) (q_add (qvb 3) (q_fdiv (qvb 2) (qvb 5)).b))) qs_nil)))
    (qs_one (qs_ret (qvb 3)))))) (fun as Q h => ?_)
  · obtain ⟨pw, rfl, hP, q⟩ := h
    rfl
  obtain ⟨pw, rfl, hP, q⟩ := h
  have hm := mOf_pos hP.ok
  have hlt := hP.lt
  have hlen := pw_len hP.ok
  refine ⟨_, rfl, by omega, hP.bd.mono (by decide), fun v v0 v1 => ?_⟩
  obtain ⟨n, rfl⟩ : ∃ n : Nat, v = (n : Int) := ⟨v.toNat, by omega⟩
  refine for_w (ds := pw.map pqD) (fun a : Nat × Option AV × Option AV => [some .deck, some (.val (.list (pw.map pqD))), some (.val (.int ((mOf pw : Nat) : Int))), some (.val (.int (a.1 : Int))), a.2.1, a.2.2]) (fun i a => a.1 < (i + 1) * 10 ^ 40 ∧ ∀ (j : Nat) (y : Nat × Nat), j < i → pw[j]? = some y → ¬ y.1 ∣ a.1) (n, none, none) rfl ⟨by dsimp only; omega, fun j y h => absurd h (Nat.not_lt_zero _)⟩ (fun i x ⟨u, z4, z5⟩ hx ⟨hu, hok⟩ => ?_) (fun ⟨u, z4, z5⟩ ⟨hu, hok⟩ => ?_)
  · obtain ⟨x, hxp, rfl⟩ := map_at hx
    dsimp only at hu hok
    have hmem := List.mem_of_getElem? hxp
    have x2 := PN_lt _ (hP.ok.mem hmem)
    have qx := qOf_le hP.ok hmem
    refine And.intro (by omega) (ifd (fun c => ?_) (fun c => ?_))
    · dsimp only at c
      have dx : x.1 ∣ u := Nat.dvd_of_mod_eq_zero (by omega)
      refine And.intro (Bd.divOk (b := 133) (by omega) (Bd.le (by omega) (by omega) hP.bd) (by decide) _) ⟨(u + mOf pw / qOf x, some (.val (.int (x.1 : Int))), some (.val (.int ((qOf x : Nat) : Int)))), ?_, ?_, ?_⟩
      · dsimp only
        rw [Int.natCast_add, Int.natCast_ediv]
        rfl
      · have := Nat.div_le_self (mOf pw) (qOf x)
        show u + mOf pw / qOf x < (i + 1 + 1) * 10 ^ 40
        rw [Nat.add_mul (i + 1) 1]
        omega
      · intro j y hj hy dv
        have dv : y.1 ∣ u + mOf pw / qOf x := dv
        have hym := List.mem_of_getElem? hy
        by_cases e : y.1 = x.1
        · have := (Nat.dvd_add_right (e ▸ dx)).mp dv
          exact (cof_dvd hP.ok hmem hym).mp this e
        · have dc := (cof_dvd hP.ok hmem hym).mpr e
          have du : y.1 ∣ u := (Nat.dvd_add_left dc).mp dv
          have hji : j ≠ i := by
            rintro rfl
            rw [hxp] at hy
            exact e (by cases hy; rfl)
          exact hok j y (by omega) hy du
    · dsimp only at c
      refine ⟨(u, some (.val (.int (x.1 : Int))), some (.val (.int ((qOf x : Nat) : Int)))), rfl, Nat.lt_of_lt_of_le hu (Nat.mul_le_mul_right _ (Nat.le_succ _)), fun j y hj hy dv => ?_⟩
      have dv : y.1 ∣ u := dv
      by_cases e : j = i
      · subst e
        rw [hxp] at hy
        cases hy
        have := Nat.mod_eq_zero_of_dvd dv
        omega
      · exact hok j y (by omega) hy dv
  · dsimp only at hu hok
    rw [List.length_map] at hu hok
    refine q u (fun x hx dv => ?_) ?_
    · obtain ⟨j, hj, e⟩ := List.mem_iff_getElem.mp hx
      exact hok j x hj (by rw [← e]; exact List.getElem?_eq_getElem hj) dv
    · have e : 11 * 10 ^ 40 < 2 ^ 200 := by decide +kernel
      have := Nat.mul_le_mul_right (10 ^ 40) (show pw.length + 1 ≤ 11 by omega)
      unfold Bd
      rw [Int.natAbs_natCast]
      omega
theorem vc__law_unit {K : PySem.W.Frag} {mg : Str → Option Value} {X : Cx} {p pos : Pos} {e : Expr} {es : List Expr} {po : WAO} (T : Txt K mg) (hq : Quiet X.A) (hr : Room 3 X.A) (ha : QAA X (e :: es) po) (hg : Gl X "_law_unit" := by rfl)
    (he : starEach (e :: es) X.env = (false, eval e X.env) :: starEach es X.env := by rfl) (hpl : (backTo pos (starEach es X.env)).any (·.1) = false := by rfl) (hK : X.K = K := by rfl) (hmg : X.mg = mg := by rfl) :
    QE X (.Call (.Name "_law_unit" p) (e :: es) [] pos) (wCall vp__law_unit po) := by
  subst hK hmg
  exact q_call (vo__law_unit T) hq hr hg T.m__law_unit T.F__law_unit.kp T.b__law_unit ha (by decide) he hpl

def vp__law_numbers : PSp := fun as Q => ∃ (pw : List (Nat × Nat)) (d : Nat), as = [.deck, .val (.list (pw.map pqD)), .val (.int ((mOf pw : Nat) : Int)), .val (.int (d : Int))] ∧ PerD pw ∧ 1 ≤ d ∧ d ≤ 3 ∧
  ∀ cs : List Nat, cs.length = d → (∀ c ∈ cs, c < mOf pw) → (∀ x ∈ pw, ∃ c ∈ cs, ¬ x.1 ∣ c) → Q (.tuple (intsD (intsN cs)))
def natD (n : Nat) : PyData := .int (n : Int)
theorem ints_nat (cs : List Nat) : intsD (intsN cs) = cs.map natD := by
  unfold intsD intsN
  rw [List.map_map]
  rfl
theorem fm_nats (p : Int) : ∀ cs : List Nat, (cs.filterMap fun n : Nat => if (n : Int) % p > 0 then some (natD n) else none) = (intsN (cs.filter fun n : Nat => decide ((n : Int) % p > 0))).map PyData.int
  | [] => rfl
  | c :: r => by
    rw [List.filterMap_cons, List.filter_cons]
    by_cases h : (c : Int) % p > 0
    · rw [if_pos h, if_pos (decide_eq_true h)]
      show natD c :: _ = natD c :: _
      rw [fm_nats p r]
    · rw [if_neg h, if_neg (by simpa using h)]
      exact fm_nats p r
theorem vo__law_numbers {P : Program} {w : World} {K : PySem.W.Frag} {mg : Str → Option Value} {base : Heap} (T : Txt K mg) : GFn P w K mg base 3 T.a__law_numbers T.d__law_numbers ["_law_deck_here", "_law_powers_here", "_law_m", "_law_d"] (spV K w vp__law_numbers) := by
  refine fnV T.F__law_numbers sc__law_numbers vp__law_numbers (fun as Q h => ?_) (fun cdv A outer s H E hq hr => (qs_cons (qs_setN 4 sc__law_numbers.nd rfl (Or.inl rfl) (q_lstL ql_nil))
    (qs_cons (qs_for PassesOwn.never (qi_range1 (by rfl) T.n_range (qv 3)) (QGn.g (vs := [5]) (qg_name 5 sc__law_numbers.nd rfl (Or.inl rfl))) (qs_cons (qs_par (i := 6) (j := 7) sc__law_numbers.nd rfl rfl (by decide) rfl rfl (qao_v (vc__law_draw T hq (hr.mono (by decide)) (qaa_deck 0 (qaa_v qc_int qaa_nil))) (qao_v (vc__law_great T hq (hr.mono (by decide)) (qaa_deck 0 (qaa_v (qv 2) qaa_nil))) qao_nil)) (by rfl))
        (qs_cons (qs_for PassesOwn.never (qi_seq (qv 1)) (QGn.g (vs := [8, 9]) (qg_tup (qgs_cons (qg_name 8 sc__law_numbers.nd rfl (Or.inr rfl)) (qgs_cons (qg_name 9 sc__law_numbers.nd rfl (Or.inl rfl)) qgs_nil)))) (qs_one (qs_if (qw_and (qt_gt (qvb 6) qc_int.b) (qw_and1 (qt_eq hr.units (vc__law_draw T hq (hr.mono (by decide)) (qaa_deck 0 (qaa_v qc_int qaa_nil))).b qc_int.b))).t (qs_one (qs_set 7 sc__law_numbers.nd rfl (Or.inl rfl) (q_mul (qvb 7) (vc__law_pick T hq (hr.mono (by decide)) (qaa_deck 0 (qaa_v (q_lstL (ql_cons (qv 8) (ql_cons (q_mul (qvb 8) (qvb 8)) (ql_cons (q_fdiv (qvb 9) (qvb 8)) (ql_cons (qv 9) ql_nil))))).e qaa_nil))).b))) qs_nil)))
        (qs_one (qs_append 4 (q_mod (q_Ty call_int1 lc_int (by rfl) T.n_int (by decide +kernel) (qab_cons (q_if (qt_eq hr.units (qvb 6) qc_int.b) qc_int (qv 7)).b qab_nil)).b (qvb 2)))))))
    (qs_cons (qs_for PassesOwn.never (qi_seq (qv 1)) (QGn.g (vs := [8, 9]) (qg_tup (qgs_cons (qg_name 8 sc__law_numbers.nd rfl (Or.inr rfl)) (qgs_cons (qg_name 9 sc__law_numbers.nd rfl (Or.inl rfl)) qgs_nil)))) (qs_one (qs_if (qt_eq hr.units (q_lc [("_law_x", 10)] sc__law_numbers.nd (qi_seqB (qvb 4)) (blkOk_by (N := N__law_numbers) (sc := defScope s__law_numbers) (by decide +kernel)) (fun _ _ _ _ _ => (qg_name 10 sc__law_numbers.nd rfl (Or.inl rfl))) (fun _ _ _ _ _ => (qts_one (qt_gt (q_mod (q_Ty call_int1 lc_int (by rfl) T.n_int (by decide +kernel) (qab_cons (qvb 10) qab_nil)).b (qvb 8)).b qc_int.b))) (fun _ _ _ _ _ => (qv 10))).e.b (q_lstL ql_nil).e.b) (qs_cons (qs_set 5 sc__law_numbers.nd rfl (Or.inl rfl) (vc__law_draw T hq (hr.mono (by decide)) (qaa_deck 0 (qaa_v (qv 3) qaa_nil))))
            (qs_one (qs_asg (q_mod (q_Ty call_int1 lc_int (by rfl) T.n_int (by decide +kernel) (qab_cons (q_add (q_ix (qvb 4) (qvb 5)).b (q_fdiv (qvb 2) (qvb 9)).b).b qab_nil)).b (qvb 2)) (qg_subL 4 (qv 5))))) qs_nil)))
    (qs_rest [4] (qs_one (qs_ret (q_Ty call_tupleK lc_tupOf (by rfl) T.n_tuple (by decide +kernel) (qab_cons (qvb 4) qab_nil)).b))))))) (fun as Q h => ?_)
  · obtain ⟨pw, d, rfl, hP, h1, h3, q⟩ := h
    rfl
  obtain ⟨pw, d, rfl, hP, h1, h3, q⟩ := h
  have hm := mOf_pos hP.ok
  have hlt := hP.lt
  have bm := hP.bd
  have hlen := pw_len hP.ok
  refine And.intro ⟨by omega, by omega⟩ ?_
  refine for_w (ds := rangeD 0 (d : Int).toNat) (fun a : List Nat × Option AV × Option AV × Option AV × Option AV × Option AV => [some .deck, some (.val (.list (pw.map pqD))), some (.val (.int ((mOf pw : Nat) : Int))), some (.val (.int (d : Int))), some (.lst (a.1.map natD)), a.2.1, a.2.2.1, a.2.2.2.1, a.2.2.2.2.1, a.2.2.2.2.2, none])
    (fun i a => a.1.length = i ∧ ∀ c ∈ a.1, c < mOf pw) ([], none, none, none, none, none) rfl ⟨rfl, fun _ h => absurd h List.not_mem_nil⟩ (fun i x ⟨cs, z5, z6, z7, z8, z9⟩ hx ⟨hl, hc⟩ => ?_) (fun ⟨cs, z5, z6, z7, z8, z9⟩ ⟨hl, hc⟩ => ?_)
  · dsimp only at hl hc
    have id : i < d := by
      have := (List.getElem?_eq_some_iff.mp hx).1
      rw [range_len] at this
      omega
    refine ⟨6, rfl, by decide, bd_small (by decide) (by decide), fun way w0 w1 => ?_⟩
    refine ⟨_, rfl, by omega, bm.mono (by decide), fun num n0 n1 => And.intro rfl ?_⟩
    obtain ⟨num, rfl⟩ : ∃ n : Nat, num = (n : Int) := ⟨num.toNat, by omega⟩
    refine for_w (ds := pw.map pqD) (fun a : Nat × Option AV × Option AV => [some .deck, some (.val (.list (pw.map pqD))), some (.val (.int ((mOf pw : Nat) : Int))), some (.val (.int (d : Int))), some (.lst (cs.map natD)), some (.val x), some (.val (.int way)), some (.val (.int (a.1 : Int))), a.2.1, a.2.2, none])
      (fun i a => a.1 < 2 ^ (134 * (i + 1))) (num, z8, z9) rfl ?_ (fun j x ⟨u, y8, y9⟩ hx hu => ?_) (fun ⟨u, y8, y9⟩ hu => ?_)
    · show num < 2 ^ (134 * (0 + 1))
      have : (10 : Nat) ^ 40 < 2 ^ (134 * (0 + 1)) := by decide +kernel
      omega
    · obtain ⟨x, hxp, rfl⟩ := map_at hx
      dsimp only at hu
      have hmem := List.mem_of_getElem? hxp
      have x2 := PN_lt _ (hP.ok.mem hmem)
      have qx := qOf_le hP.ok hmem
      have jl : j < pw.length := (List.getElem?_eq_some_iff.mp hxp).1
      have pB : Bd 5 (x.1 : Int) := by unfold Bd; rw [Int.natAbs_natCast]; omega
      have uB : Bd 1900 (u : Int) := by
        unfold Bd
        rw [Int.natAbs_natCast]
        exact Nat.lt_of_lt_of_le hu (Nat.pow_le_pow_right (by decide) (by omega))
      have stay : u < 2 ^ (134 * (j + 1 + 1)) := Nat.lt_of_lt_of_le hu (Nat.pow_le_pow_right (by decide) (by omega))
      refine ifd (fun _ => ⟨3, rfl, by decide, bd_small (by decide) (by decide), fun v v0 v1 => ifd (fun _ => ?_) (fun _ => ⟨(u, some (.val (.int (x.1 : Int))), some (.val (.int ((qOf x : Nat) : Int)))), rfl, stay⟩)⟩) (fun _ => ⟨(u, some (.val (.int (x.1 : Int))), some (.val (.int ((qOf x : Nat) : Int)))), rfl, stay⟩)
      refine And.intro (pB.mulOk pB) (And.intro (Bd.divOk (b := 5) (by omega) pB (by decide) _) ⟨_, rfl, by show 1 ≤ 4; decide, by show 4 ≤ 1000; decide, fun e he => ?_⟩)
      have key : ∃ k : Nat, e = .int (k : Int) ∧ k < 2 ^ 134 := by
        have b40 : (10 : Nat) ^ 40 < 2 ^ 134 := by decide +kernel
        simp only [List.mem_cons, List.not_mem_nil, or_false] at he
        rcases he with rfl | rfl | rfl | rfl
        · exact ⟨x.1, rfl, by omega⟩
        · refine ⟨x.1 * x.1, by rw [Int.natCast_mul], ?_⟩
          have := Nat.mul_le_mul x2.2 x2.2
          omega
        · refine ⟨qOf x / x.1, by rw [Int.natCast_ediv], ?_⟩
          have := Nat.div_le_self (qOf x) x.1
          omega
        · exact ⟨qOf x, rfl, by omega⟩
      obtain ⟨k, rfl, hk⟩ := key
      have kB : Bd 134 (k : Int) := by unfold Bd; rw [Int.natAbs_natCast]; exact hk
      refine And.intro (uB.mulOk kB) ⟨(u * k, some (.val (.int (x.1 : Int))), some (.val (.int ((qOf x : Nat) : Int)))), ?_, lt_shift hu hk rfl⟩
      dsimp only
      rw [Int.natCast_mul]
      rfl
    · have fin : ∀ k : Int, 0 ≤ k → k < (mOf pw : Nat) → (cs.map natD).length < sizeLine ∧ ∃ a' : List Nat × Option AV × Option AV × Option AV × Option AV × Option AV, [some AV.deck, some (.val (.list (pw.map pqD))), some (.val (.int ((mOf pw : Nat) : Int))), some (.val (.int (d : Int))), some (.lst (cs.map natD ++ [.int k])), some (.val x), some (.val (.int way)), some (.val (.int (u : Int))), y8, y9, none] = [some .deck, some (.val (.list (pw.map pqD))), some (.val (.int ((mOf pw : Nat) : Int))), some (.val (.int (d : Int))), some (.lst (a'.1.map natD)), a'.2.1, a'.2.2.1, a'.2.2.2.1, a'.2.2.2.2.1, a'.2.2.2.2.2, none] ∧ a'.1.length = i + 1 ∧ ∀ c ∈ a'.1, c < mOf pw := fun k k0 hk => by
        obtain ⟨k, rfl⟩ : ∃ n : Nat, k = (n : Int) := ⟨k.toNat, by omega⟩
        have hk : k < mOf pw := by omega
        exact ⟨by rw [List.length_map]; exact Nat.lt_of_le_of_lt (show cs.length ≤ 3 by omega) (by decide), (cs ++ [k], some (.val x), some (.val (.int way)), some (.val (.int (u : Int))), y8, y9), by dsimp only; rw [List.map_append]; rfl, by dsimp only; rw [List.length_append, hl]; rfl, fun c hc' => by
          rcases List.mem_append.mp hc' with h | h
          · exact hc c h
          · rw [List.mem_singleton.mp h]; exact hk⟩
      have m0 : (0 : Int) < ((mOf pw : Nat) : Int) := by omega
      refine ifd (fun _ => And.intro m0 (fin _ (emodB _ m0).1 (emodB _ m0).2)) (fun _ => And.intro m0 (fin _ (emodB _ m0).1 (emodB _ m0).2))
  · dsimp only at hl hc
    rw [range_len] at hl
    have hl : cs.length = d := by omega
    refine for_w (ds := pw.map pqD) (fun a : List Nat × Option AV × Option AV × Option AV => [some .deck, some (.val (.list (pw.map pqD))), some (.val (.int ((mOf pw : Nat) : Int))), some (.val (.int (d : Int))), some (.lst (a.1.map natD)), a.2.1, z6, z7, a.2.2.1, a.2.2.2, none])
      (fun i a => (a.1.length = d ∧ ∀ c ∈ a.1, c < mOf pw) ∧ ∀ (j : Nat) (y : Nat × Nat), j < i → pw[j]? = some y → ∃ c ∈ a.1, ¬ y.1 ∣ c) (cs, z5, z8, z9) rfl ⟨⟨hl, hc⟩, fun j y h => absurd h (Nat.not_lt_zero _)⟩ (fun i x ⟨cs, y5, y8, y9⟩ hx ⟨⟨hl, hc⟩, hok⟩ => ?_) (fun ⟨cs, y5, y8, y9⟩ ⟨⟨hl, hc⟩, hok⟩ => ?_)
    · obtain ⟨x, hxp, rfl⟩ := map_at hx
      dsimp only at hl hc hok
      have hmem := List.mem_of_getElem? hxp
      have x2 := PN_lt _ (hP.ok.mem hmem)
      have qx := qOf_le hP.ok hmem
      have p0 : (0 : Int) < (x.1 : Int) := by omega
      have m0 : (0 : Int) < ((mOf pw : Nat) : Int) := by omega
      refine And.intro (by rw [List.length_map]; omega) (comp_fmA (enc := natD) (l := cs) (fun n : Nat => if (n : Int) % (x.1 : Int) > 0 then some (natD n) else none) (fun i y hy R hR => And.intro p0 (ifd (fun c => ?_) (fun c => ?_))) ?_)
      · rw [if_pos c] at hR
        exact hR
      · rw [if_neg c] at hR
        exact hR
      have eL : ∀ L : List PyData, (if false = true then !PyData.eqv (.list L) (.list []) else PyData.eqv (.list L) (.list [])) = L.isEmpty := fun L => by cases L <;> simp [PyData.eqv, PyData.eqvAll]
      refine And.intro (by rw [fm_nats]; exact shaped_lst) (And.intro (shaped_lst (cs := [])) (ifb (fun c => ?_) (fun c => ?_)))
      · rw [eL] at c
        have all : ∀ n ∈ cs, x.1 ∣ n := fun n hn => by
          refine Classical.byContradiction fun nd => ?_
          have g : (n : Int) % (x.1 : Int) > 0 := by
            have := emodB (n : Int) p0
            have h2 : (n : Int) % (x.1 : Int) ≠ 0 := fun z => nd (Int.natCast_dvd_natCast.mp (Int.dvd_of_emod_eq_zero z))
            omega
          have mem : natD n ∈ cs.filterMap fun n : Nat => if (n : Int) % (x.1 : Int) > 0 then some (natD n) else none := List.mem_filterMap.mpr ⟨n, hn, if_pos g⟩
          rw [List.isEmpty_iff.mp c] at mem
          exact absurd mem List.not_mem_nil
        refine ⟨d, rfl, by omega, bd_small (by omega) (by decide), fun k k0 k1 => ?_⟩
        obtain ⟨k, rfl⟩ : ∃ n : Nat, k = (n : Int) := ⟨k.toNat, by omega⟩
        have hk : k < cs.length := by omega
        refine optW_of' (atI_nat (j := k) (v := natD cs[k]) (by rw [List.getElem?_map, List.getElem?_eq_getElem hk]; rfl)) ?_
        refine And.intro (Bd.divOk (b := 133) (by omega) (Bd.le (by omega) (by omega) hP.bd) (by decide) _) (And.intro m0 ?_)
        have md := mend hP.ok hmem all hk
        obtain ⟨v, hv⟩ : ∃ v, (cs[k] + mOf pw / qOf x) % mOf pw = v := ⟨_, rfl⟩
        rw [hv] at md
        have vm : v < mOf pw := by rw [← hv]; exact Nat.mod_lt _ hm
        have hv' : ((cs[k] : Int) + ((mOf pw : Nat) : Int) / ((qOf x : Nat) : Int)) % ((mOf pw : Nat) : Int) = (v : Int) := by rw [← hv]; rfl
        dsimp only
        rw [hv']
        refine optW_of' (d := k) (by rw [List.length_map]; exact Evl.ixN_nat hk) ⟨(cs.set k v, some (.val (.int (k : Int))), some (.val (.int (x.1 : Int))), some (.val (.int ((qOf x : Nat) : Int)))), ?_, ⟨?_, fun c hc' => ?_⟩, fun j y hj hy => ?_⟩
        · dsimp only
          rw [List.map_set]
          rfl
        · dsimp only
          rw [List.length_set]
          exact hl
        · rcases List.mem_or_eq_of_mem_set hc' with h | rfl
          · exact hc c h
          · exact vm
        · have new : v ∈ cs.set k v := List.mem_set hk v
          by_cases e : j = i
          · subst e
            rw [hxp] at hy
            cases hy
            exact ⟨v, new, md.1⟩
          · obtain ⟨c, hcm, nd⟩ := hok j y (by omega) hy
            obtain ⟨l, hl', rfl⟩ := List.mem_iff_getElem.mp hcm
            by_cases e2 : l = k
            · subst e2
              exact ⟨v, new, md.2 y (List.mem_of_getElem? hy) (pw_ne hP.ok hxp hy e) nd⟩
            · exact ⟨cs[l], List.mem_iff_getElem.mpr ⟨l, by rw [List.length_set]; exact hl', List.getElem_set_ne (fun z => e2 z.symm) _⟩, nd⟩
      · rw [eL] at c
        refine ⟨(cs, y5, some (.val (.int (x.1 : Int))), some (.val (.int ((qOf x : Nat) : Int)))), rfl, ⟨hl, hc⟩, fun j y hj hy => ?_⟩
        by_cases e : j = i
        · subst e
          rw [hxp] at hy
          cases hy
          refine Classical.byContradiction fun z => ?_
          have nil : (cs.filterMap fun n : Nat => if (n : Int) % (x.1 : Int) > 0 then some (natD n) else none) = [] := by
            refine List.filterMap_eq_nil_iff.mpr fun n hn => ?_
            have dn : x.1 ∣ n := Classical.byContradiction fun nd => z ⟨n, hn, nd⟩
            have : (n : Int) % (x.1 : Int) = 0 := Int.emod_eq_zero_of_dvd (Int.natCast_dvd_natCast.mpr dn)
            rw [if_neg (by omega)]
          rw [nil] at c
          cases c
        · exact hok j y (by omega) hy
    · dsimp only at hl hc hok
      rw [List.length_map] at hok
      have q := q cs hl hc fun x hx => by
        obtain ⟨j, hj, e⟩ := List.mem_iff_getElem.mp hx
        exact hok j x hj (by rw [← e]; exact List.getElem?_eq_getElem hj)
      rw [ints_nat] at q
      exact q
theorem vc__law_numbers {K : PySem.W.Frag} {mg : Str → Option Value} {X : Cx} {p pos : Pos} {e : Expr} {es : List Expr} {po : WAO} (T : Txt K mg) (hq : Quiet X.A) (hr : Room 3 X.A) (ha : QAA X (e :: es) po) (hg : Gl X "_law_numbers" := by rfl)
    (he : starEach (e :: es) X.env = (false, eval e X.env) :: starEach es X.env := by rfl) (hpl : (backTo pos (starEach es X.env)).any (·.1) = false := by rfl) (hK : X.K = K := by rfl) (hmg : X.mg = mg := by rfl) :
    QE X (.Call (.Name "_law_numbers" p) (e :: es) [] pos) (wCall vp__law_numbers po) := by
  subst hK hmg
  exact q_call (vo__law_numbers T) hq hr hg T.m__law_numbers T.F__law_numbers.kp T.b__law_numbers ha (by decide) he hpl

end KL
namespace KL
open PySem PySem.Spec PyProof.Rows L2 RZ StX SrtO Kw KM PV
/-! ### two forms of a stripe -/
def vp__law_stripe : PSp := fun as Q => ∃ d : Nat, as = [.deck, .val (.int (d : Int))] ∧ 1 ≤ d ∧ d ≤ 3 ∧ ∀ s s' : Sr, SrOk d s → SrOk d s' → NumK 40 s → NumK 40 s' → Q (.tuple [s.D, s'.D])
theorem comp_mapX {α : Type} {g : WG} {te : WE} {Γ : VEnv} {xs : List PyData} {enc : α → PyData} {l : List α} {Q : List PyData → Prop} (e : xs = l.map enc) (f : α → PyData) (ys : List PyData) (ey : l.map f = ys) (h : ∀ (i : Nat) (y : α), l[i]? = some y → ∀ R : PyData → Prop, R (f y) → g (enc y) Γ fun Γ1 => te Γ1 R) (q : Q ys) : CompP g wYes te Γ xs Q := by
  subst e ey
  exact comp_mapA f h q
theorem numK_of {pw : List (Nat × Nat)} (hP : PerD pw) {d : Nat} {s : Sr} (em : mOf pw = s.m) (h : SOk pw s.c s.r) : NumK 40 s := by
  have hlt := hP.lt
  refine ⟨by rw [← em]; exact hlt, fun c hc => ?_, ?_, h.l3⟩
  · have := h.c0 c hc
    omega
  · have := h.r0
    omega
theorem vo__law_stripe {P : Program} {w : World} {K : PySem.W.Frag} {mg : Str → Option Value} {base : Heap} (T : Txt K mg) : GFn P w K mg base 4 T.a__law_stripe T.d__law_stripe ["_law_deck_here", "_law_d"] (spV K w vp__law_stripe) := by
  refine fnV T.F__law_stripe sc__law_stripe vp__law_stripe (fun as Q h => ?_) (fun cdv A outer s H E hq hr => (qs_cons (qs_set 2 sc__law_stripe.nd rfl (Or.inl rfl) (vc__law_powers T hq (hr.mono (by decide)) (qaa_deck 0 (qaa_v (vc__law_pick T hq (hr.mono (by decide)) (qaa_deck 0 (qaa_v (q_lstL (ql_cons (q_pow qc_int.b qc_int.b) (ql_cons (q_pow qc_int.b qc_int.b) (ql_cons (q_pow qc_int.b qc_int.b) ql_nil)))).e qaa_nil))) (qaa_v qc_int qaa_nil)))))
    (qs_cons (qs_set 3 sc__law_stripe.nd rfl (Or.inr rfl) (vc__law_product T hq (hr.mono (by decide)) (qaa_v (q_lc [("_law_p", 7), ("_law_q", 8)] sc__law_stripe.nd (qi_seqB (qvb 2)) (blkOk_by (N := N__law_stripe) (sc := defScope s__law_stripe) (by decide +kernel)) (fun _ _ _ _ _ => (qg_tup (qgs_cons (qg_name 7 sc__law_stripe.nd rfl (Or.inl rfl)) (qgs_cons (qg_name 8 sc__law_stripe.nd rfl (Or.inl rfl)) qgs_nil)))) (fun _ _ _ _ _ => qts_nil) (fun _ _ _ _ _ => (qv 8))).e qaa_nil)))
    (qs_cons (qs_asgN [4, 5, 6] (qao_v (vc__law_unit T hq (hr.mono (by decide)) (qaa_deck 0 (qaa_v (qv 2) (qaa_v (qv 3) qaa_nil)))) (qao_v (vc__law_numbers T hq (hr.mono (by decide)) (qaa_deck 0 (qaa_v (qv 2) (qaa_v (qv 3) (qaa_v (qv 1) qaa_nil))))) (qao_v (vc__law_great T hq (hr.mono (by decide)) (qaa_deck 0 (qaa_v (qv 3) qaa_nil))) qao_nil))) (pgs_cons (pg_name (i := 4) sc__law_stripe.nd rfl (Or.inr rfl)) (pgs_cons (pg_name (i := 5) sc__law_stripe.nd rfl (Or.inl rfl)) (pgs_cons (pg_name (i := 6) sc__law_stripe.nd rfl (Or.inl rfl)) pgs_nil))))
    (qs_one (qs_ret (q_tupL (ql_cons (q_tupL (ql_cons (qv 3) (ql_cons (qv 5) (ql_cons (qv 6) ql_nil)))) (ql_cons (q_tupL (ql_cons (qv 3) (ql_cons (q_Ty call_tupleK lc_tupOf (by rfl) T.n_tuple (by decide +kernel) (qab_cons (q_lc [("_law_a", 9)] sc__law_stripe.nd (qi_seqB (qvb 5)) (blkOk_by (N := N__law_stripe) (sc := defScope s__law_stripe) (by decide +kernel)) (fun _ _ _ _ _ => (qg_name 9 sc__law_stripe.nd rfl (Or.inl rfl))) (fun _ _ _ _ _ => qts_nil) (fun _ _ _ _ _ => (q_mod (q_Ty call_int1 lc_int (by rfl) T.n_int (by decide +kernel) (qab_cons (q_mul (qvb 4) (qvb 9)).b qab_nil)).b (qvb 3)))).e.b qab_nil)) (ql_cons (q_mod (q_Ty call_int1 lc_int (by rfl) T.n_int (by decide +kernel) (qab_cons (q_mul (qvb 4) (qvb 6)).b qab_nil)).b (qvb 3)) ql_nil)))) ql_nil))).b)))))) (fun as Q h => ?_)
  · obtain ⟨d, rfl, h1, h3, q⟩ := h
    rfl
  obtain ⟨d, rfl, h1, h3, q⟩ := h
  have p : ∀ k : Int, 0 ≤ k → k ≤ 40 → CPow 10 k := fun k k0 k1 => ⟨by omega, by omega, by decide⟩
  refine And.intro (p _ (by decide) (by decide)) (And.intro (p _ (by decide) (by decide)) (And.intro (p _ (by decide) (by decide)) ⟨_, rfl, by show 1 ≤ 3; decide, by show 3 ≤ 1000; decide, fun e he => ?_⟩))
  have key : ∃ top : Nat, e = .int (top : Int) ∧ 2 ≤ top ∧ top ≤ 10 ^ 40 := by
    simp only [List.mem_cons, List.not_mem_nil, or_false] at he
    rcases he with rfl | rfl | rfl
    · exact ⟨10 ^ 1, rfl, by decide, by decide⟩
    · exact ⟨10 ^ 2, rfl, by decide, by decide⟩
    · exact ⟨10 ^ 40, rfl, by decide, Nat.le_refl _⟩
  obtain ⟨top, rfl, t2, t40⟩ := key
  refine ⟨top, 1000, rfl, t2, t40, Nat.le_refl _, fun pw hP => ?_⟩
  have hw := hP.ok
  have hm := mOf_pos hw
  have hlen := pw_len hw
  have m0 : (0 : Int) < ((mOf pw : Nat) : Int) := by omega
  refine And.intro (by rw [List.length_map]; omega) (comp_mapX (enc := pqD) (l := pw) rfl (fun x => .int ((qOf x : Nat) : Int)) (intsD (intsN (pw.map qOf))) (by unfold intsD intsN; rw [List.map_map, List.map_map]; rfl) (fun i x hx R hR => hR) ?_)
  refine ⟨pw.map qOf, rfl, fun n hn => ?_, ?_, ?_⟩
  · obtain ⟨x, hx, rfl⟩ := List.mem_map.mp hn
    exact (qOf_le hw hx).1
  · rw [prodI_mOf]
    exact hP.bd.mono (by decide)
  rw [prodI_mOf]
  refine ⟨pw, rfl, hP, fun u hu ub => ⟨pw, d, rfl, hP, h1, h3, fun cs hl hc hf => ⟨_, rfl, by omega, hP.bd.mono (by decide), fun r r0 r1 => And.intro rfl ?_⟩⟩⟩
  refine at_st [some .deck, some (.val (.int (d : Int))), some (.val (.list (pw.map pqD))), some (.val (.int ((mOf pw : Nat) : Int))), some (.val (.int (u : Int))), some (.val (.tuple (intsD (intsN cs)))), some (.val (.int r)), none, none, none] rfl ?_
  have cB : ∀ c ∈ cs, Bd 133 (c : Int) := fun c hc' => Bd.le (by omega) (by have := hc c hc'; omega) hP.bd
  have ok : SOk pw (intsN cs) r := SOk.mk' hP (by rw [show (intsN cs).length = cs.length by simp [intsN], hl]; exact h1) (by rw [show (intsN cs).length = cs.length by simp [intsN], hl]; exact h3) (fun c hc' => by
    obtain ⟨n, hn, rfl⟩ := List.mem_map.mp hc'
    have := hc n hn
    omega) (fun x hx => by
    obtain ⟨c, hcm, nd⟩ := hf x hx
    exact ⟨(c : Int), List.mem_map_of_mem hcm, fun z => nd (Int.natCast_dvd_natCast.mp z)⟩) ⟨r0, r1⟩
  have ok' := ok.other hP hu
  refine And.intro (by rw [List.length_map]; rw [show (intsN cs).length = cs.length by simp [intsN]]; omega) (comp_mapX (enc := natD) (l := cs) (ints_nat cs) (fun c => .int (((u : Int) * (c : Int)) % ((mOf pw : Nat) : Int))) (intsD ((intsN cs).map fun c => ((u : Int) * c) % ((mOf pw : Nat) : Int))) (by unfold intsD intsN; rw [List.map_map, List.map_map]; rfl) (fun i c hc' R hR => And.intro (ub.mulOk (cB c (List.mem_of_getElem? hc'))) (And.intro m0 hR)) ?_)
  refine And.intro (ub.mulOk (Bd.le r0 (by omega) hP.bd)) (And.intro m0 ?_)
  have l1 : (intsN cs).length = d := by rw [show (intsN cs).length = cs.length by simp [intsN], hl]
  exact q ⟨mOf pw, intsN cs, r⟩ ⟨mOf pw, (intsN cs).map fun c => ((u : Int) * c) % ((mOf pw : Nat) : Int), ((u : Int) * r) % ((mOf pw : Nat) : Int)⟩ ⟨⟨pw, rfl, ok⟩, l1⟩ ⟨⟨pw, rfl, ok'⟩, by show ((intsN cs).map _).length = d; rw [List.length_map, l1]⟩ (numK_of (d := d) hP rfl ok) (numK_of (d := d) hP rfl ok')
theorem vc__law_stripe {K : PySem.W.Frag} {mg : Str → Option Value} {X : Cx} {p pos : Pos} {e : Expr} {es : List Expr} {po : WAO} (T : Txt K mg) (hq : Quiet X.A) (hr : Room 4 X.A) (ha : QAA X (e :: es) po) (hg : Gl X "_law_stripe" := by rfl)
    (he : starEach (e :: es) X.env = (false, eval e X.env) :: starEach es X.env := by rfl) (hpl : (backTo pos (starEach es X.env)).any (·.1) = false := by rfl) (hK : X.K = K := by rfl) (hmg : X.mg = mg := by rfl) :
    QE X (.Call (.Name "_law_stripe" p) (e :: es) [] pos) (wCall vp__law_stripe po) := by
  subst hK hmg
  exact q_call (vo__law_stripe T) hq hr hg T.m__law_stripe T.F__law_stripe.kp T.b__law_stripe ha (by decide) he hpl

end KL
namespace KL
open PySem PySem.Spec PyProof.Rows L2 RZ StX SrtO Kw KM PV
/-! ### sums, differences, multiples: the program -/
def negL (l : List (Sr × Int)) : List (Sr × Int) := l.map fun x => (x.1, -x.2)
def mulL (n : Int) (l : List (Sr × Int)) : List (Sr × Int) := l.map fun x => (x.1, x.2 * n)
def vp_has_breadth : PSp := fun as Q => ∃ (hs : Hs) (d : Nat), as = [.val (hsD hs), .val (.int (d : Int))] ∧ HsOk d hs ∧ hs.length ≤ 40000 ∧ Q (.bool true)
theorem vo_has_breadth {P : Program} {w : World} {K : PySem.W.Frag} {mg : Str → Option Value} {base : Heap} (T : Txt K mg) : GFn P w K mg base 1 T.a_has_breadth T.d_has_breadth ["heap", "breadth"] (spV K w vp_has_breadth) := by
  refine fnV T.F_has_breadth sc_has_breadth vp_has_breadth (fun as Q h => ?_) (fun cdv A outer s H E hq hr => (qs_one (qs_ret (q_B cr_allK lc_bls (by rfl) T.n_all (by decide +kernel) (qab_cons (q_lc [("stripe", 2), ("_", 3)] sc_has_breadth.nd (qi_seqB (qvb 0)) (blkOk_by (N := N_has_breadth) (sc := defScope s_has_breadth) (by decide +kernel)) (fun _ _ _ _ _ => (qg_tup (qgs_cons (qg_name 2 sc_has_breadth.nd rfl (Or.inl rfl)) (qgs_cons (qg_name 3 sc_has_breadth.nd rfl (Or.inl rfl)) qgs_nil)))) (fun _ _ _ _ _ => qts_nil) (fun _ _ _ _ _ => (q_eq hr.units (q_B call_lenK lc_len (by rfl) T.n_len (by decide +kernel) (qab_cons (q_ix (qvb 2) qc_int.b).b qab_nil)).b (qvb 1)))).e.b qab_nil)).b))) (fun as Q h => ?_)
  · obtain ⟨hs, d, rfl, ok, hl, q⟩ := h
    rfl
  obtain ⟨hs, d, rfl, ok, hl, q⟩ := h
  have l0 : (hs.map prD).length ≤ 100000 := by rw [List.length_map]; omega
  refine And.intro l0 (comp_mapA (fun _ => .bool true) (fun i x hx R r => ?_) (allT hs q))
  show R (.bool (decide (((x.1.c.map PyData.int).length : Int) = (d : Int))))
  rw [List.length_map, (ok.sr x (List.mem_of_getElem? hx)).len, decide_eq_true rfl]
  exact r
theorem vc_has_breadth {K : PySem.W.Frag} {mg : Str → Option Value} {X : Cx} {p pos : Pos} {e : Expr} {es : List Expr} {po : WAO} (T : Txt K mg) (hq : Quiet X.A) (hr : Room 1 X.A) (ha : QAA X (e :: es) po) (hg : Gl X "has_breadth" := by rfl)
    (he : starEach (e :: es) X.env = (false, eval e X.env) :: starEach es X.env := by rfl) (hpl : (backTo pos (starEach es X.env)).any (·.1) = false := by rfl) (hK : X.K = K := by rfl) (hmg : X.mg = mg := by rfl) :
    QE X (.Call (.Name "has_breadth" p) (e :: es) [] pos) (wCall vp_has_breadth po) := by
  subst hK hmg
  exact q_call (vo_has_breadth T) hq hr hg T.m_has_breadth T.F_has_breadth.kp T.b_has_breadth ha (by decide) he hpl

def vp_breadth_of_heap : PSp := fun as Q => ∃ (hs : Hs) (d : Nat), as = [.val (hsD hs)] ∧ HsOk d hs ∧ hs ≠ [] ∧ Q (.int (d : Int))
theorem vo_breadth_of_heap {P : Program} {w : World} {K : PySem.W.Frag} {mg : Str → Option Value} {base : Heap} (T : Txt K mg) : GFn P w K mg base 1 T.a_breadth_of_heap T.d_breadth_of_heap ["heap"] (spV K w vp_breadth_of_heap) := by
  refine fnV T.F_breadth_of_heap sc_breadth_of_heap vp_breadth_of_heap (fun as Q h => ?_) (fun cdv A outer s H E hq hr => (qs_one (qs_ret (q_B call_lenK lc_len (by rfl) T.n_len (by decide +kernel) (qab_cons (q_ix (q_ix (q_ix (qvb 0) qc_int.b).b qc_int.b).b qc_int.b).b qab_nil)).b))) (fun as Q h => ?_)
  · obtain ⟨hs, d, rfl, ok, hn, q⟩ := h
    rfl
  obtain ⟨hs, d, rfl, ok, hn, q⟩ := h
  obtain ⟨x, r, rfl⟩ := List.exists_cons_of_ne_nil hn
  refine optW_of' (atI_nat (j := 0) (v := prD x) rfl) ?_
  show Q (.int ((x.1.c.map PyData.int).length : Int))
  rw [List.length_map, (ok.sr x List.mem_cons_self).len]
  exact q
theorem vc_breadth_of_heap {K : PySem.W.Frag} {mg : Str → Option Value} {X : Cx} {p pos : Pos} {e : Expr} {es : List Expr} {po : WAO} (T : Txt K mg) (hq : Quiet X.A) (hr : Room 1 X.A) (ha : QAA X (e :: es) po) (hg : Gl X "breadth_of_heap" := by rfl)
    (he : starEach (e :: es) X.env = (false, eval e X.env) :: starEach es X.env := by rfl) (hpl : (backTo pos (starEach es X.env)).any (·.1) = false := by rfl) (hK : X.K = K := by rfl) (hmg : X.mg = mg := by rfl) :
    QE X (.Call (.Name "breadth_of_heap" p) (e :: es) [] pos) (wCall vp_breadth_of_heap po) := by
  subst hK hmg
  exact q_call (vo_breadth_of_heap T) hq hr hg T.m_breadth_of_heap T.F_breadth_of_heap.kp T.b_breadth_of_heap ha (by decide) he hpl

def vp_opposed : PSp := fun as Q => ∃ (hs : Hs), as = [.val (hsD hs)] ∧ hs.length ≤ 40000 ∧ Q (.list ((negL hs).map prD))
theorem vo_opposed {P : Program} {w : World} {K : PySem.W.Frag} {mg : Str → Option Value} {base : Heap} (T : Txt K mg) : GFn P w K mg base 1 T.a_opposed T.d_opposed ["pairs"] (spV K w vp_opposed) := by
  refine fnV T.F_opposed sc_opposed vp_opposed (fun as Q h => ?_) (fun cdv A outer s H E hq hr => (qs_one (qs_ret (q_lc [("stripe", 1), ("tint", 2)] sc_opposed.nd (qi_seqB (qvb 0)) (blkOk_by (N := N_opposed) (sc := defScope s_opposed) (by decide +kernel)) (fun _ _ _ _ _ => (qg_tup (qgs_cons (qg_name 1 sc_opposed.nd rfl (Or.inl rfl)) (qgs_cons (qg_name 2 sc_opposed.nd rfl (Or.inl rfl)) qgs_nil)))) (fun _ _ _ _ _ => qts_nil) (fun _ _ _ _ _ => (q_tupL (ql_cons (qv 1) (ql_cons (q_neg (qv 2)) ql_nil))))).e.b))) (fun as Q h => ?_)
  · obtain ⟨hs, rfl, hl, q⟩ := h
    rfl
  obtain ⟨hs, rfl, hl, q⟩ := h
  have l0 : (hs.map prD).length ≤ 100000 := by rw [List.length_map]; omega
  refine And.intro l0 (comp_mapA (fun x => prD (x.1, -x.2)) (fun i x hx R r => r) ?_)
  have e : (hs.map fun x => prD (x.1, -x.2)) = (negL hs).map prD := by unfold negL; rw [List.map_map]; rfl
  rw [e]
  exact q
theorem vc_opposed {K : PySem.W.Frag} {mg : Str → Option Value} {X : Cx} {p pos : Pos} {e : Expr} {es : List Expr} {po : WAO} (T : Txt K mg) (hq : Quiet X.A) (hr : Room 1 X.A) (ha : QAA X (e :: es) po) (hg : Gl X "opposed" := by rfl)
    (he : starEach (e :: es) X.env = (false, eval e X.env) :: starEach es X.env := by rfl) (hpl : (backTo pos (starEach es X.env)).any (·.1) = false := by rfl) (hK : X.K = K := by rfl) (hmg : X.mg = mg := by rfl) :
    QE X (.Call (.Name "opposed" p) (e :: es) [] pos) (wCall vp_opposed po) := by
  subst hK hmg
  exact q_call (vo_opposed T) hq hr hg T.m_opposed T.F_opposed.kp T.b_opposed ha (by decide) he hpl

def vp_check_heaps : PSp := fun as Q => ∃ (a b : Hs) (d : Nat), as = [.val (hsD a), .val (hsD b)] ∧ HsOk d a ∧ HsOk d b ∧ a.length ≤ 40000 ∧ b.length ≤ 40000 ∧ Q .none
theorem vo_check_heaps {P : Program} {w : World} {K : PySem.W.Frag} {mg : Str → Option Value} {base : Heap} (T : Txt K mg) : GFn P w K mg base 7 T.a_check_heaps T.d_check_heaps ["one", "other"] (spV K w vp_check_heaps) := by
  refine fnV T.F_check_heaps sc_check_heaps vp_check_heaps (fun as Q h => ?_) (fun cdv A outer s H E hq hr => (qs_cons (qs_expr (vc_check_heap T hq (hr.mono (by decide)) (qaa_v (qv 0) qaa_nil)).b)
    (qs_cons (qs_expr (vc_check_heap T hq (hr.mono (by decide)) (qaa_v (qv 1) qaa_nil)).b)
    (qs_one (qs_if (qw_and (qt_tru (qvb 0)) (qw_and1 (qt_not (qt_val (vc_has_breadth T hq (hr.mono (by decide)) (qaa_v (qv 1) (qaa_v (vc_breadth_of_heap T hq (hr.mono (by decide)) (qaa_v (qv 0) qaa_nil)) qaa_nil))))))).t (qs_one qs_never) qs_nil))))) (fun as Q h => ?_)
  · obtain ⟨a, b, d, rfl, oa, ob, la, lb, q⟩ := h
    rfl
  obtain ⟨a, b, d, rfl, oa, ob, la, lb, q⟩ := h
  refine ⟨a, d, rfl, oa, by omega, ⟨b, d, rfl, ob, by omega, ?_⟩⟩
  cases a with
  | nil =>
    refine at_st [some (.val (hsD [])), some (.val (hsD b))] rfl ?_
    unfold wIfS
    dsimp only [wAnd, wTru, wVarB, slotB, List.getElem?_cons_zero, hsD, List.map_nil, oTru]
    first | exact q | exact iff' q | exact iff' (iff' q) | fail "goal"
  | cons y r =>
    refine at_st [some (.val (hsD (y :: r))), some (.val (hsD b))] rfl ?_
    unfold wIfS
    dsimp only [wAnd, wTru, wVarB, slotB, List.getElem?_cons_zero, hsD, List.map_cons, oTru]
    refine ift ⟨y :: r, d, rfl, oa, List.cons_ne_nil _ _, ⟨b, d, rfl, ob, lb, ?_⟩⟩
    first | exact q | exact iff' q
theorem vc_check_heaps {K : PySem.W.Frag} {mg : Str → Option Value} {X : Cx} {p pos : Pos} {e : Expr} {es : List Expr} {po : WAO} (T : Txt K mg) (hq : Quiet X.A) (hr : Room 7 X.A) (ha : QAA X (e :: es) po) (hg : Gl X "check_heaps" := by rfl)
    (he : starEach (e :: es) X.env = (false, eval e X.env) :: starEach es X.env := by rfl) (hpl : (backTo pos (starEach es X.env)).any (·.1) = false := by rfl) (hK : X.K = K := by rfl) (hmg : X.mg = mg := by rfl) :
    QE X (.Call (.Name "check_heaps" p) (e :: es) [] pos) (wCall vp_check_heaps po) := by
  subst hK hmg
  exact q_call (vo_check_heaps T) hq hr hg T.m_check_heaps T.F_check_heaps.kp T.b_check_heaps ha (by decide) he hpl

def vp_added : PSp := fun as Q => ∃ (a b : Hs) (d : Nat), as = [.val (hsD a), .val (hsD b)] ∧ HsOk d a ∧ HsOk d b ∧ a.length ≤ 40000 ∧ b.length ≤ 40000 ∧ Q (hsD (gatS (a ++ b)))
theorem vo_added {P : Program} {w : World} {K : PySem.W.Frag} {mg : Str → Option Value} {base : Heap} (T : Txt K mg) : GFn P w K mg base 8 T.a_added T.d_added ["one", "other"] (spV K w vp_added) := by
  refine fnV T.F_added sc_added vp_added (fun as Q h => ?_) (fun cdv A outer s H E hq hr => (qs_cons (qs_expr (vc_check_heaps T hq (hr.mono (by decide)) (qaa_v (qv 0) (qaa_v (qv 1) qaa_nil))).b)
    (qs_one (qs_ret (vc_gathered T hq (hr.mono (by decide)) (qaa_v (q_add (qvb 0) (qvb 1)) qaa_nil)).b)))) (fun as Q h => ?_)
  · obtain ⟨a, b, d, rfl, oa, ob, la, lb, q⟩ := h
    rfl
  obtain ⟨a, b, d, rfl, oa, ob, la, lb, q⟩ := h
  refine ⟨a, b, d, rfl, oa, ob, la, lb, ?_⟩
  exact And.intro (by rw [List.length_map, List.length_map]; exact Nat.le_trans (show a.length + b.length ≤ 100000 by omega) (by decide)) ⟨a ++ b, _, rfl, .inr (by rw [List.map_append]), by rw [List.length_append]; omega, q⟩
theorem vc_added {K : PySem.W.Frag} {mg : Str → Option Value} {X : Cx} {p pos : Pos} {e : Expr} {es : List Expr} {po : WAO} (T : Txt K mg) (hq : Quiet X.A) (hr : Room 8 X.A) (ha : QAA X (e :: es) po) (hg : Gl X "added" := by rfl)
    (he : starEach (e :: es) X.env = (false, eval e X.env) :: starEach es X.env := by rfl) (hpl : (backTo pos (starEach es X.env)).any (·.1) = false := by rfl) (hK : X.K = K := by rfl) (hmg : X.mg = mg := by rfl) :
    QE X (.Call (.Name "added" p) (e :: es) [] pos) (wCall vp_added po) := by
  subst hK hmg
  exact q_call (vo_added T) hq hr hg T.m_added T.F_added.kp T.b_added ha (by decide) he hpl

def vp_taken : PSp := fun as Q => ∃ (a b : Hs) (d : Nat), as = [.val (hsD a), .val (hsD b)] ∧ HsOk d a ∧ HsOk d b ∧ a.length ≤ 40000 ∧ b.length ≤ 40000 ∧ Q (hsD (gatS (a ++ negL b)))
theorem vo_taken {P : Program} {w : World} {K : PySem.W.Frag} {mg : Str → Option Value} {base : Heap} (T : Txt K mg) : GFn P w K mg base 8 T.a_taken T.d_taken ["one", "other"] (spV K w vp_taken) := by
  refine fnV T.F_taken sc_taken vp_taken (fun as Q h => ?_) (fun cdv A outer s H E hq hr => (qs_cons (qs_expr (vc_check_heaps T hq (hr.mono (by decide)) (qaa_v (qv 0) (qaa_v (qv 1) qaa_nil))).b)
    (qs_one (qs_ret (vc_gathered T hq (hr.mono (by decide)) (qaa_v (q_add (q_TyN call_list_of lcn_lstOf (by rfl) T.n_list (by decide +kernel) (qab_cons (qvb 0) qab_nil)).e.b (vc_opposed T hq (hr.mono (by decide)) (qaa_v (qv 1) qaa_nil)).b) qaa_nil)).b)))) (fun as Q h => ?_)
  · obtain ⟨a, b, d, rfl, oa, ob, la, lb, q⟩ := h
    rfl
  obtain ⟨a, b, d, rfl, oa, ob, la, lb, q⟩ := h
  refine ⟨a, b, d, rfl, oa, ob, la, lb, ?_⟩
  refine ⟨b, rfl, lb, ?_⟩
  have nl : (negL b).length = b.length := by unfold negL; rw [List.length_map]
  exact And.intro (by rw [List.length_map, List.length_map, nl]; exact Nat.le_trans (show a.length + b.length ≤ 100000 by omega) (by decide)) ⟨a ++ negL b, _, rfl, .inl (by rw [List.map_append]), by rw [List.length_append, nl]; omega, q⟩
theorem vc_taken {K : PySem.W.Frag} {mg : Str → Option Value} {X : Cx} {p pos : Pos} {e : Expr} {es : List Expr} {po : WAO} (T : Txt K mg) (hq : Quiet X.A) (hr : Room 8 X.A) (ha : QAA X (e :: es) po) (hg : Gl X "taken" := by rfl)
    (he : starEach (e :: es) X.env = (false, eval e X.env) :: starEach es X.env := by rfl) (hpl : (backTo pos (starEach es X.env)).any (·.1) = false := by rfl) (hK : X.K = K := by rfl) (hmg : X.mg = mg := by rfl) :
    QE X (.Call (.Name "taken" p) (e :: es) [] pos) (wCall vp_taken po) := by
  subst hK hmg
  exact q_call (vo_taken T) hq hr hg T.m_taken T.F_taken.kp T.b_taken ha (by decide) he hpl

def vp_times : PSp := fun as Q => ∃ (a : Hs) (d : Nat) (n : Int), as = [.val (hsD a), .val (.int n)] ∧ HsOk d a ∧ a.length ≤ 40000 ∧ (∀ x ∈ a, CMulW x.2 n) ∧ Q (hsD (gatS (mulL n a)))
theorem vo_times {P : Program} {w : World} {K : PySem.W.Frag} {mg : Str → Option Value} {base : Heap} (T : Txt K mg) : GFn P w K mg base 7 T.a_times T.d_times ["heap", "number"] (spV K w vp_times) := by
  refine fnV T.F_times sc_times vp_times (fun as Q h => ?_) (fun cdv A outer s H E hq hr => (qs_cons (qs_expr (vc_check_heap T hq (hr.mono (by decide)) (qaa_v (qv 0) qaa_nil)).b)
    (qs_cons (qs_if (qt_not (qt_val (vc_is_integer T hq (hr.mono (by decide)) (qaa_v (qv 1) qaa_nil)))) (qs_one qs_never) qs_nil)
    (qs_one (qs_ret (vc_gathered T hq (hr.mono (by decide)) (qaa_v (q_lc [("stripe", 2), ("tint", 3)] sc_times.nd (qi_seqB (qvb 0)) (blkOk_by (N := N_times) (sc := defScope s_times) (by decide +kernel)) (fun _ _ _ _ _ => (qg_tup (qgs_cons (qg_name 2 sc_times.nd rfl (Or.inl rfl)) (qgs_cons (qg_name 3 sc_times.nd rfl (Or.inl rfl)) qgs_nil)))) (fun _ _ _ _ _ => qts_nil) (fun _ _ _ _ _ => (q_tupL (ql_cons (qv 2) (ql_cons (q_mul (qvb 3) (qvb 1)) ql_nil))))).e qaa_nil)).b))))) (fun as Q h => ?_)
  · obtain ⟨a, d, n, rfl, oa, la, hb, q⟩ := h
    rfl
  obtain ⟨a, d, n, rfl, oa, la, hb, q⟩ := h
  have l0 : (a.map prD).length ≤ 100000 := by rw [List.length_map]; omega
  refine ⟨a, d, rfl, oa, by omega, ⟨.int n, rfl, ?_⟩⟩
  refine And.intro l0 (comp_mapA (fun x => prD (x.1, x.2 * n)) (fun i x hx R r => And.intro (hb x (List.mem_of_getElem? hx)) r) ?_)
  have e : (a.map fun x => prD (x.1, x.2 * n)) = (mulL n a).map prD := by unfold mulL; rw [List.map_map]; rfl
  rw [e]
  exact ⟨mulL n a, _, rfl, .inl rfl, by unfold mulL; rw [List.length_map]; omega, q⟩
theorem vc_times {K : PySem.W.Frag} {mg : Str → Option Value} {X : Cx} {p pos : Pos} {e : Expr} {es : List Expr} {po : WAO} (T : Txt K mg) (hq : Quiet X.A) (hr : Room 7 X.A) (ha : QAA X (e :: es) po) (hg : Gl X "times" := by rfl)
    (he : starEach (e :: es) X.env = (false, eval e X.env) :: starEach es X.env := by rfl) (hpl : (backTo pos (starEach es X.env)).any (·.1) = false := by rfl) (hK : X.K = K := by rfl) (hmg : X.mg = mg := by rfl) :
    QE X (.Call (.Name "times" p) (e :: es) [] pos) (wCall vp_times po) := by
  subst hK hmg
  exact q_call (vo_times T) hq hr hg T.m_times T.F_times.kp T.b_times ha (by decide) he hpl

end KL
namespace KL
open PySem PySem.Spec PyProof.Rows L2 RZ StX SrtO Kw KM PV
/-! ### the law's tables -/
/-- what is drawn: stripes and tints -/
structure Tb (d : Nat) (t : Hs) (n : Nat) : Prop where
  len : t.length ≤ n
  nd : (t.map (·.1)).Nodup
  ok : ∀ x ∈ t, SrOk d x.1 ∧ NumK 40 x.1 ∧ Bd 140 x.2
def vp__law_drawn : PSpD := fun as Q => ∃ d : Nat, as = [.deck, .val (.int (d : Int))] ∧ 1 ≤ d ∧ d ≤ 3 ∧ ∀ t u : Hs, Tb d t 24 → Tb d u 24 → Q [some (.dct false (entH t)), some (.dct false (entH u))]
theorem mem_put {t : Hs} {s : Sr} {v : Int} {x : Sr × Int} (h : x ∈ putH t s v) : x = (s, v) ∨ x ∈ t := by
  unfold putH at h
  split at h
  · obtain ⟨y, hy, e⟩ := List.mem_map.mp h
    by_cases c : y.1 = s
    · rw [if_pos c] at e
      exact .inl (by rw [← e, c])
    · rw [if_neg c] at e
      exact .inr (e ▸ hy)
  · rcases List.mem_append.mp h with h | h
    · exact .inr h
    · exact .inl (List.mem_singleton.mp h)
theorem Tb.put {d n : Nat} {t : Hs} (h : Tb d t n) {s : Sr} (h1 : SrOk d s) (h2 : NumK 40 s) {z : Int} (zb : Bd 140 z) : Tb d (putH t s z) (n + 1) := by
  refine ⟨Nat.le_trans (putH_len _ _ _) (by have := h.len; omega), putH_nodup h.nd _ _, fun x hx => ?_⟩
  rcases mem_put hx with rfl | hx
  · exact ⟨h1, h2, zb⟩
  · exact h.ok x hx
theorem Tb.mono {d n m : Nat} {t : Hs} (h : Tb d t n) (l : n ≤ m) : Tb d t m := ⟨Nat.le_trans h.len l, h.nd, h.ok⟩
theorem entH_len (t : Hs) : (entH t).length = t.length := by unfold entH; rw [List.length_map]
theorem ix4l {a b c v : Int} (v0 : 0 ≤ v) (v4 : v < 4) {Q : PyData → Prop} (q : ∀ z : Int, z = 0 ∨ z = a ∨ z = b ∨ z = c → Q (.int z)) : oIx (.list [.int 0, .int a, .int b, .int c]) (.int v) Q := by
  obtain rfl | rfl | rfl | rfl : v = 0 ∨ v = 1 ∨ v = 2 ∨ v = 3 := by omega
  · exact q _ (.inl rfl)
  · exact q _ (.inr (.inl rfl))
  · exact q _ (.inr (.inr (.inl rfl)))
  · exact q _ (.inr (.inr (.inr rfl)))
theorem pick_sign {e : PyData} (h : e ∈ [PyData.int 1, .int (-1)]) : ∃ g : Int, e = .int g ∧ (g = 1 ∨ g = -1) := by
  simp only [List.mem_cons, List.not_mem_nil, or_false] at h
  rcases h with rfl | rfl
  · exact ⟨1, rfl, .inl rfl⟩
  · exact ⟨-1, rfl, .inr rfl⟩
theorem vo__law_drawn {P : Program} {w : World} {K : PySem.W.Frag} {mg : Str → Option Value} {base : Heap} (T : Txt K mg) : GFn P w K mg base 5 T.a__law_drawn T.d__law_drawn ["_law_deck_here", "_law_d"] (spD K w vp__law_drawn) := by
  refine fnD T.F__law_drawn sc__law_drawn vp__law_drawn (fun as Q h => ?_) (fun cdv A outer s H E hq hr => (qd_cons (qs_par3 (i := 2) (j := 3) (l := 4) sc__law_drawn.nd rfl rfl rfl (by decide) (by decide) (by decide) rfl rfl rfl (qao_d (qao_d (qao_v (vc__law_pick T hq (hr.mono (by decide)) (qaa_deck 0 (qaa_v (q_lstL (ql_cons qc_int (ql_cons qc_int (ql_cons qc_int (ql_cons qc_int (ql_cons qc_int (ql_cons qc_int ql_nil))))))).e qaa_nil))) qao_nil))) (by rfl))
    (qd_cons (qs_for PassesOwn.never (qi_range1 (by rfl) T.n_range (qv 4)) (QGn.g (vs := [5]) (qg_name 5 sc__law_drawn.nd rfl (Or.inl rfl))) (qs_cons (qs_par (i := 6) (j := 7) sc__law_drawn.nd rfl rfl (by decide) rfl rfl (qao_v (vc__law_draw T hq (hr.mono (by decide)) (qaa_deck 0 (qaa_v qc_int qaa_nil))) (qao_v (vc__law_stripe T hq (hr.mono (by decide)) (qaa_deck 0 (qaa_v (qv 1) qaa_nil))) qao_nil)) (by rfl))
        (qs_cons (qs_set 8 sc__law_drawn.nd rfl (Or.inl rfl) (q_mul (vc__law_pick T hq (hr.mono (by decide)) (qaa_deck 0 (qaa_v (q_lstL (ql_cons qc_int (ql_cons (q_neg qc_int) ql_nil))).e qaa_nil))).b (q_add qc_int.b (vc__law_great T hq (hr.mono (by decide)) (qaa_deck 0 (qaa_v (q_sub (vc__law_pick T hq (hr.mono (by decide)) (qaa_deck 0 (qaa_v (q_lstL (ql_cons (q_pow qc_int.b qc_int.b) (ql_cons (q_pow qc_int.b qc_int.b) ql_nil))).e qaa_nil))).b qc_int.b) qaa_nil))).b).b))
        (qs_cons (qs_set 9 sc__law_drawn.nd rfl (Or.inl rfl) (q_mul (vc__law_pick T hq (hr.mono (by decide)) (qaa_deck 0 (qaa_v (q_lstL (ql_cons qc_int (ql_cons (q_neg qc_int) ql_nil))).e qaa_nil))).b (q_add qc_int.b (vc__law_great T hq (hr.mono (by decide)) (qaa_deck 0 (qaa_v (q_pow qc_int.b qc_int.b) qaa_nil))).b).b))
        (qs_cons (qs_if (qt_ne hr.units (qvb 6) qc_int.b) (qs_one (qs_asg (qv 8) (qg_subD 2 hr.units (q_ix (qvb 7) qc_int.b)))) qs_nil)
        (qs_one (qs_if (qt_gt (qvb 6) qc_int.b) (qs_one (qs_asg (qv 9) (qg_subD 3 hr.units (q_ix (qvb 7) qc_int.b)))) (qs_one (qs_if (qt_gt (qvb 6) qc_int.b) (qs_one (qs_asg (q_ix (q_lstL (ql_cons qc_int (ql_cons (qv 8) (ql_cons (q_neg (qv 8)) (ql_cons (qv 9) ql_nil))))).e.b (qvb 6)) (qg_subD 3 hr.units (q_ix (qvb 7) qc_int.b)))) qs_nil)))))))))
    (qd_ret2 2 3 (by decide))))) (fun as Q h => ?_)
  · obtain ⟨d, rfl, d1, d3, q⟩ := h
    rfl
  obtain ⟨d, rfl, d1, d3, q⟩ := h
  refine ⟨_, rfl, by show 1 ≤ 6; decide, by show 6 ≤ 1000; decide, fun l hl => ?_⟩
  obtain ⟨n, hn, rfl⟩ := pick_int (ns := [0, 1, 2, 5, 12, 24]) hl
  have n24 : 0 ≤ n ∧ n ≤ 24 := by
    simp only [List.mem_cons, List.not_mem_nil, or_false] at hn
    omega
  clear hl hn
  refine And.intro rfl (And.intro ⟨by omega, by omega⟩ ?_)
  refine for_w (ds := rangeD 0 n.toNat) (fun a : (Hs × Hs) × Option AV × Option AV × Option AV × Option AV × Option AV => [some .deck, some (.val (.int (d : Int))), some (.dct false (entH a.1.1)), some (.dct false (entH a.1.2)), some (.val (.int n)), a.2.1, a.2.2.1, a.2.2.2.1, a.2.2.2.2.1, a.2.2.2.2.2]) (fun i a => Tb d a.1.1 i ∧ Tb d a.1.2 i) (([], []), none, none, none, none, none) rfl
    ⟨⟨Nat.le_refl _, List.nodup_nil, fun _ h => absurd h List.not_mem_nil⟩, ⟨Nat.le_refl _, List.nodup_nil, fun _ h => absurd h List.not_mem_nil⟩⟩ (fun i x ⟨⟨t, u⟩, z5, z6, z7, z8, z9⟩ hx ⟨hT, hU⟩ => ?_) (fun ⟨⟨t, u⟩, z5, z6, z7, z8, z9⟩ ⟨hT, hU⟩ => ?_)
  · dsimp only at hT hU
    have i24 : i < 24 := by
      have := (List.getElem?_eq_some_iff.mp hx).1
      rw [range_len] at this
      omega
    have p : ∀ k : Int, 0 ≤ k → k ≤ 40 → CPow 10 k := fun k k0 k1 => ⟨by omega, by omega, by decide⟩
    refine ⟨6, rfl, by decide, bd_small (by decide) (by decide), fun way w0 w1 => ⟨d, rfl, d1, d3, fun s s' ok ok' nk nk' => And.intro rfl ?_⟩⟩
    refine ⟨_, rfl, by show 1 ≤ 2; decide, by show 2 ≤ 1000; decide, fun e he => ?_⟩
    obtain ⟨sg, rfl, hsg⟩ := pick_sign he
    refine And.intro (p _ (by decide) (by decide)) (And.intro (p _ (by decide) (by decide)) ⟨_, rfl, by show 1 ≤ 2; decide, by show 2 ≤ 1000; decide, fun e2 he2 => ?_⟩)
    have key : ∃ top : Int, e2 = .int top ∧ 2 ≤ top ∧ top < 2 ^ 130 := by
      simp only [List.mem_cons, List.not_mem_nil, or_false] at he2
      rcases he2 with rfl | rfl
      · exact ⟨10, rfl, by decide, by decide⟩
      · exact ⟨10 ^ 38, rfl, by decide +kernel, by decide +kernel⟩
    obtain ⟨top, rfl, t2, tb⟩ := key
    have topB : Bd 1500 (top - 1) := by
      have e5 : (2 : Nat) ^ 130 ≤ 2 ^ 1500 := Nat.pow_le_pow_right (by decide) (by decide)
      unfold Bd
      omega
    refine ⟨_, rfl, by omega, topB, fun v v0 v1 => ?_⟩
    have vB : Bd 131 (1 + v) := by
      unfold Bd
      omega
    have sB : Bd 2 sg := by
      unfold Bd
      rcases hsg with rfl | rfl <;> decide
    refine And.intro (sB.mulOk vB) ?_
    refine ⟨_, rfl, by show 1 ≤ 2; decide, by show 2 ≤ 1000; decide, fun e3 he3 => ?_⟩
    obtain ⟨sh, rfl, hsh⟩ := pick_sign he3
    refine And.intro (p _ (by decide) (by decide)) ⟨_, rfl, by decide, by unfold Bd; decide +kernel, fun r r0 r1 => ?_⟩
    have e9 : (10 : Int) ^ Int.toNat 9 = 1000000000 := by decide
    rw [e9] at r1
    have rB : Bd 31 (1 + r) := by
      unfold Bd
      omega
    have hB : Bd 2 sh := by
      unfold Bd
      rcases hsh with rfl | rfl <;> decide
    refine And.intro (hB.mulOk rB) ?_
    have tB : Bd 140 (sg * (1 + v)) := (Bd.mul (b := 131) sB vB).mono (by decide)
    have nB : Bd 140 (sh * (1 + r)) := (Bd.mul (b := 31) hB rB).mono (by decide)
    have fin : ∀ (et eu : List (NK × PyData)) (t' u' : Hs), et = entH t' → eu = entH u' → Tb d t' (i + 1) → Tb d u' (i + 1) → ∃ a' : (Hs × Hs) × Option AV × Option AV × Option AV × Option AV × Option AV, [some AV.deck, some (.val (.int (d : Int))), some (.dct false et), some (.dct false eu), some (.val (.int n)), some (.val x), some (.val (.int way)), some (.val (.tuple [s.D, s'.D])), some (.val (.int (sg * (1 + v)))), some (.val (.int (sh * (1 + r))))] = [some .deck, some (.val (.int (d : Int))), some (.dct false (entH a'.1.1)), some (.dct false (entH a'.1.2)), some (.val (.int n)), a'.2.1, a'.2.2.1, a'.2.2.2.1, a'.2.2.2.2.1, a'.2.2.2.2.2] ∧ Tb d a'.1.1 (i + 1) ∧ Tb d a'.1.2 (i + 1) := fun et eu t' u' e1 e2 h1 h2 => by
      subst e1 e2
      exact ⟨((t', u'), some (.val x), some (.val (.int way)), some (.val (.tuple [s.D, s'.D])), some (.val (.int (sg * (1 + v)))), some (.val (.int (sh * (1 + r))))), rfl, h1, h2⟩
    have lt' : ∀ w : Hs, w.length ≤ i → (entH w).length < sizeLine := fun w hw => by
      rw [entH_len]
      exact Nat.lt_of_lt_of_le (show w.length < 100 by omega) (by decide)
    have oneB : Bd 140 (-(sg * (1 + v))) := by
      unfold Bd at tB ⊢
      rw [Int.natAbs_neg]
      exact tB
    refine ifn (fun c => keyS s ⟨lt' t hT.len, ?_⟩) (fun c => ?_)
    · refine ifd (fun c3 => keyS s' ⟨lt' u hU.len, fin _ _ _ _ (entH_put t s _) (entH_put u s' _) (hT.put ok nk tB) (hU.put ok' nk' nB)⟩) (fun c3 => ?_)
      refine ifd (fun c0 => ix4l w0 (by omega) fun z hz => keyS s ⟨lt' u hU.len, fin _ _ _ _ (entH_put t s _) (entH_put u s _) (hT.put ok nk tB) (hU.put ok nk ?_)⟩) (fun _ => fin _ _ _ _ (entH_put t s _) rfl (hT.put ok nk tB) (hU.mono (Nat.le_succ i)))
      rcases hz with rfl | rfl | rfl | rfl
      · unfold Bd; decide
      · exact tB
      · exact oneB
      · exact nB
    · refine ifd (fun c3 => keyS s' ⟨lt' u hU.len, fin _ _ _ _ rfl (entH_put u s' _) (hT.mono (Nat.le_succ i)) (hU.put ok' nk' nB)⟩) (fun c3 => absurd (show (3 : Int) < way by omega) c3)
  · dsimp only at hT hU
    rw [range_len] at hT hU
    exact q t u (hT.mono (by omega)) (hU.mono (by omega))

def vp__law_heap : PSp := fun as Q => ∃ t : Hs, as = [.dct true (entH t)] ∧ t.length ≤ 90000 ∧ (t.map (·.1)).Nodup ∧ Q (hsD (gatS t))
theorem sumT_get {v : Hs} (nd : (v.map (·.1)).Nodup) (s : Sr) : sumT v s = (getH v s).getD 0 := by
  cases e : getH v s with
  | none => rw [sumT_none (getH_none.mp e)]; rfl
  | some z =>
    have m := (getH_mem nd (x := (s, z))).mpr e
    rw [sumT_mem nd m]
    rfl
theorem sumT_put {v : Hs} (nd : (v.map (·.1)).Nodup) (k : Sr) (z : Int) (s : Sr) : sumT (putH v k z) s = if k = s then z else sumT v s := by
  rw [sumT_get (putH_nodup nd k z), getH_put]
  by_cases c : k = s
  · rw [if_pos c, if_pos c]; rfl
  · rw [if_neg c, if_neg c, sumT_get nd]
theorem gatS_nd {t : Hs} (nd : (t.map (·.1)).Nodup) : gatS t = sortHs (nzH t) := by
  refine asc_eq (gatS_asc t) (sortHs_asc ((List.filter_sublist.map _).nodup nd)) fun x => ?_
  rw [mem_gatS, (sortHs_perm _).mem_iff]
  unfold nzH
  rw [List.mem_filter]
  constructor
  · rintro ⟨h1, h2⟩
    rw [sumT_get nd] at h2
    refine ⟨(getH_mem nd).mpr ?_, decide_eq_true h1⟩
    cases e : getH t x.1 with
    | none => rw [e] at h2; exact absurd h2.symm h1
    | some z => rw [e] at h2; rw [← h2]; rfl
  · rintro ⟨h1, h2⟩
    exact ⟨of_decide_eq_true h2, sumT_mem nd h1⟩
theorem entH_keys (t : Hs) : (entH t).map (·.1.data) = t.map fun x => x.1.D := by
  unfold entH
  rw [List.map_map]
  exact List.map_congr_left fun x _ => Sr.K_data x.1
theorem vo__law_heap {P : Program} {w : World} {K : PySem.W.Frag} {mg : Str → Option Value} {base : Heap} (T : Txt K mg) : GFn P w K mg base 1 T.a__law_heap T.d__law_heap ["_law_tints"] (spV K w vp__law_heap) := by
  refine fnV T.F__law_heap sc__law_heap vp__law_heap (fun as Q h => ?_) (fun cdv A outer s H E hq hr => (qs_one (qs_ret (q_Ty call_tupleK lc_tupOf (by rfl) T.n_tuple (by decide +kernel) (qab_cons (q_BN (cr_sortD0 hr.units) lcn_sortD (by rfl) T.n_sorted (by decide +kernel) (qab_cons (q_lockR 0 (q_lc [("_law_stripe_here", 1)] sc__law_heap.nd (qi_keys 0) (blkOk_by (N := N__law_heap) (sc := defScope s__law_heap) (by decide +kernel)) (fun _ _ _ _ _ => (qg_name 1 sc__law_heap.nd rfl (Or.inl rfl))) (fun _ _ _ _ _ => (qts_one (qt_ne hr.units (q_dget 0 hr.units (qv 1)).b qc_int.b))) (fun _ _ _ _ _ => (q_tupL (ql_cons (qv 1) (ql_cons (q_dget 0 hr.units (qv 1)) ql_nil)))))).e.b qab_nil)).e.b qab_nil)).b))) (fun as Q h => ?_)
  · obtain ⟨t, rfl, hl, nd, q⟩ := h
    rfl
  obtain ⟨t, rfl, hl, nd, q⟩ := h
  show (((entH t).map (·.1.data)).length ≤ 100000 ∧ _)
  rw [entH_keys]
  refine ⟨by rw [List.length_map]; omega, comp_fmA (enc := fun x : Sr × Int => x.1.D) (l := t) (fun x => if x.2 ≠ 0 then some (prD x) else none) (fun i x hx R hR => keyS x.1 ?_) ?_⟩
  · have gx := getH_at nd (List.mem_of_getElem? hx)
    rw [entH_get, gx]
    refine ifn (fun c => ?_) (fun c => ?_)
    · rw [if_pos c] at hR
      refine keyS x.1 ?_
      rw [entH_get, gx]
      exact hR
    · rw [if_neg (fun z => z c)] at hR
      exact hR
  · rw [nzH_fm]
    rw [gatS_nd nd] at q
    exact sort_prW (Nat.le_trans (Nat.le_trans (List.length_filter_le _ _) hl) (by decide)) q
theorem vc__law_heap {K : PySem.W.Frag} {mg : Str → Option Value} {X : Cx} {p pos : Pos} {e : Expr} {es : List Expr} {po : WAO} (T : Txt K mg) (hq : Quiet X.A) (hr : Room 1 X.A) (ha : QAA X (e :: es) po) (hg : Gl X "_law_heap" := by rfl)
    (he : starEach (e :: es) X.env = (false, eval e X.env) :: starEach es X.env := by rfl) (hpl : (backTo pos (starEach es X.env)).any (·.1) = false := by rfl) (hK : X.K = K := by rfl) (hmg : X.mg = mg := by rfl) :
    QE X (.Call (.Name "_law_heap" p) (e :: es) [] pos) (wCall vp__law_heap po) := by
  subst hK hmg
  exact q_call (vo__law_heap T) hq hr hg T.m__law_heap T.F__law_heap.kp T.b__law_heap ha (by decide) he hpl

def vp__law_summed : PSpD := fun as Q => ∃ (t u : Hs) (n : Int), as = [.dct true (entH t), .dct true (entH u), .val (.int n)] ∧ t.length ≤ 1000 ∧ u.length ≤ 1000 ∧ (t.map (·.1)).Nodup ∧ (u.map (·.1)).Nodup ∧ (∀ x ∈ u, CMulW n x.2) ∧
  ∀ v : Hs, v.length ≤ t.length + u.length → (v.map (·.1)).Nodup → (∀ s, sumT v s = sumT t s + n * sumT u s) → Q [some (.dct false (entH v))]
theorem keys_at {t : Hs} {i : Nat} {x : PyData} (h : ((entH t).map (·.1.data))[i]? = some x) : ∃ y, t[i]? = some y ∧ x = y.1.D := by
  rw [entH_keys] at h
  obtain ⟨y, hy, e⟩ := map_at h
  exact ⟨y, hy, e⟩
theorem take_snoc {t : Hs} {i : Nat} {y : Sr × Int} (h : t[i]? = some y) : t.take (i + 1) = t.take i ++ [y] := by
  rw [List.take_add_one, h]
  rfl
theorem vo__law_summed {P : Program} {w : World} {K : PySem.W.Frag} {mg : Str → Option Value} {base : Heap} (T : Txt K mg) : GFn P w K mg base 1 T.a__law_summed T.d__law_summed ["_law_one", "_law_other", "_law_sign"] (spD K w vp__law_summed) := by
  refine fnD T.F__law_summed sc__law_summed vp__law_summed (fun as Q h => ?_) (fun cdv A outer s H E hq hr => (qd_cons (qs_setD 3 sc__law_summed.nd rfl (Or.inl rfl))
    (qd_cons (qs_forKeys 0 PassesOwn.never (QGn.g (vs := [4]) (qg_name 4 sc__law_summed.nd rfl (Or.inl rfl))) (qs_one (qs_asg (q_dget 0 hr.units (qv 4)) (qg_subD 3 hr.units (qv 4)))))
    (qd_cons (qs_forKeys 1 PassesOwn.never (QGn.g (vs := [4]) (qg_name 4 sc__law_summed.nd rfl (Or.inl rfl))) (qs_one (qs_asg (q_add (q_dget2 3 hr.units (qv 4) qc_int).b (q_mul (qvb 2) (q_dget 1 hr.units (qv 4)).b).b) (qg_subD 3 hr.units (qv 4)))))
    (qd_ret 3))))) (fun as Q h => ?_)
  · obtain ⟨t, u, n, rfl, lt, lu, nt, nu, hb, q⟩ := h
    rfl
  obtain ⟨t, u, n, rfl, lt, lu, nt, nu, hb, q⟩ := h
  refine And.intro rfl (for_w (fun a : Option PyData × Nat => [some (.dct true (entH t)), some (.dct true (entH u)), some (.val (.int n)), some (.dct false (entH (t.take a.2))), a.1.map AV.val]) (fun i a => a.2 = i) (none, 0) rfl rfl (fun i x ⟨z, k⟩ hx e => ?_) (fun ⟨z, k⟩ e => ?_))
  · obtain ⟨y, hy, rfl⟩ := keys_at hx
    have e : k = i := e
    subst e
    refine keyS y.1 ?_
    rw [entH_get, getH_at nt (List.mem_of_getElem? hy)]
    have il : k < t.length := (List.getElem?_eq_some_iff.mp hy).1
    refine keyS y.1 ⟨?_, (some y.1.D, k + 1), ?_, rfl⟩
    · unfold entH
      rw [List.length_map, List.length_take]
      exact Nat.lt_of_lt_of_le (show min k t.length < 100000 by omega) (by decide)
    · dsimp only
      rw [entH_put, take_snoc hy, putH_new (getH_none.mpr ?_)]
      · rfl
      · intro z
        obtain ⟨w, hw, ew⟩ := List.mem_map.mp z
        have nd2 := nt
        rw [← List.take_append_drop (k + 1) t, take_snoc hy, List.map_append, List.map_append] at nd2
        have h3 := (List.nodup_append.mp (List.nodup_append.mp nd2).1).2.2
        exact h3 _ (List.mem_map_of_mem hw) _ List.mem_cons_self ew
  have e : k = ((entH t).map (·.1.data)).length := e
  rw [entH_keys, List.length_map] at e
  subst e
  refine And.intro (by cases z <;> rfl) ?_
  dsimp only
  rw [List.take_length]
  refine And.intro (by cases z <;> rfl) (for_w (fun a : Option PyData × Hs => [some (.dct true (entH t)), some (.dct true (entH u)), some (.val (.int n)), some (.dct false (entH a.2)), a.1.map AV.val]) (fun i a => a.2.length ≤ t.length + i ∧ (a.2.map (·.1)).Nodup ∧ ∀ s, sumT a.2 s = sumT t s + n * sumT (u.take i) s) (z, t) rfl ⟨Nat.le_refl _, nt, fun s => ?_⟩ (fun i x ⟨y1, v⟩ hx ⟨h1, h2, h3⟩ => ?_) (fun ⟨y1, v⟩ ⟨h1, h2, h3⟩ => ?_))
  · show sumT t s = sumT t s + n * sumT [] s
    rw [show sumT [] s = 0 from rfl, Int.mul_zero, Int.add_zero]
  · obtain ⟨y, hy, rfl⟩ := keys_at hx
    dsimp only at h1 h2 h3
    have hm := List.mem_of_getElem? hy
    have il : i < u.length := (List.getElem?_eq_some_iff.mp hy).1
    refine keyS y.1 ?_
    rw [entH_get]
    refine keyS y.1 ?_
    rw [entH_get, getH_at nu hm]
    have eg : ((getH v y.1).map PyData.int).getD (.int 0) = .int ((getH v y.1).getD 0) := by cases getH v y.1 <;> rfl
    rw [eg]
    refine And.intro (hb y hm) (keyS y.1 ⟨?_, (some y.1.D, putH v y.1 ((getH v y.1).getD 0 + n * y.2)), ?_, ?_, putH_nodup h2 _ _, fun s => ?_⟩)
    · unfold entH
      rw [List.length_map]
      exact Nat.lt_of_lt_of_le (show v.length < 100000 by omega) (by decide)
    · dsimp only
      rw [← entH_put]
      rfl
    · have := putH_len v y.1 ((getH v y.1).getD 0 + n * y.2)
      dsimp only
      omega
    · dsimp only
      rw [sumT_put h2, take_snoc hy, sumT_append, sumT_cons, show sumT [] s = 0 from rfl, Int.add_zero, ← sumT_get h2]
      by_cases c : y.1 = s
      · subst c
        rw [if_pos rfl, if_pos rfl, h3, Int.mul_add, Int.add_assoc]
      · rw [if_neg c, if_neg c, h3, Int.add_zero]
  · refine And.intro (by cases y1 <;> rfl) ?_
    dsimp only at h1 h2 h3
    rw [entH_keys, List.length_map] at h1 h3
    rw [List.take_length] at h3
    exact q v h1 h2 h3

end KL
namespace KL
open PySem PySem.Spec PyProof.Rows L2 RZ StX SrtO Kw KM PV
/-! ### sums of heaps -/
theorem gatS_nodup (l : List (Sr × Int)) : ((gatS l).map (·.1)).Nodup := asc_nodup (gatS_asc l)
theorem sum_gat (l : List (Sr × Int)) (s : Sr) : sumT (gatS l) s = sumT l s := by
  by_cases c : sumT l s = 0
  · rw [c]
    refine sumT_none fun z => ?_
    obtain ⟨y, hy, e⟩ := List.mem_map.mp z
    obtain ⟨h1, h2⟩ := mem_gatS.mp hy
    rw [e, c] at h2
    exact h1 h2.symm
  · exact sumT_mem (gatS_nodup l) (x := (s, sumT l s)) (mem_gatS.mpr ⟨c, rfl⟩)
theorem sum_neg (l : List (Sr × Int)) (s : Sr) : sumT (negL l) s = -sumT l s := by
  induction l with
  | nil => rfl
  | cons x r ih =>
    have : negL (x :: r) = (x.1, -x.2) :: negL r := rfl
    rw [this, sumT_cons, sumT_cons, ih]
    dsimp only
    split <;> omega
theorem sum_mul (n : Int) (l : List (Sr × Int)) (s : Sr) : sumT (mulL n l) s = sumT l s * n := by
  induction l with
  | nil => show (0 : Int) = 0 * n; rw [Int.zero_mul]
  | cons x r ih =>
    have : mulL n (x :: r) = (x.1, x.2 * n) :: mulL n r := rfl
    rw [this, sumT_cons, sumT_cons, ih, Int.add_mul]
    dsimp only
    split
    · rfl
    · rw [Int.zero_mul]
theorem gatS_ok {d : Nat} {l : List (Sr × Int)} (h : ∀ x ∈ l, SrOk d x.1) : HsOk d (gatS l) := ⟨fun x hx => by
  obtain ⟨y, hy, e⟩ := gatS_from hx
  rw [← e]
  exact h y hy, fun x hx => (mem_gatS.mp hx).1, gatS_asc l⟩
/-- a heap of what is drawn: its stripes, how many, how great its tints -/
structure Hp' (d n j : Nat) (l : List (Sr × Int)) : Prop where
  ok : ∀ x ∈ l, SrOk d x.1 ∧ NumK 40 x.1
  len : l.length ≤ n
  bd : ∀ s, (sumT l s).natAbs < 2 ^ j
theorem Hp'.hs {d n j : Nat} {l : List (Sr × Int)} (h : Hp' d n j l) : HsOk d (gatS l) := gatS_ok fun x hx => (h.ok x hx).1
theorem Hp'.gat {d n j : Nat} {l : List (Sr × Int)} (h : Hp' d n j l) : Hp' d n j (gatS l) := ⟨fun x hx => by
  obtain ⟨y, hy, e⟩ := gatS_from hx
  rw [← e]
  exact h.ok y hy, Nat.le_trans (gatS_len l) h.len, fun s => by rw [sum_gat]; exact h.bd s⟩
theorem Hp'.neg {d n j : Nat} {l : List (Sr × Int)} (h : Hp' d n j l) : Hp' d n j (negL l) := ⟨fun x hx => by
  obtain ⟨y, hy, rfl⟩ := List.mem_map.mp hx
  exact h.ok y hy, by unfold negL; rw [List.length_map]; exact h.len, fun s => by rw [sum_neg, Int.natAbs_neg]; exact h.bd s⟩
theorem Hp'.add {d n m j : Nat} {a b : List (Sr × Int)} (h : Hp' d n j a) (h' : Hp' d m j b) : Hp' d (n + m) (j + 1) (a ++ b) := ⟨fun x hx => (List.mem_append.mp hx).elim (h.ok x) (h'.ok x), by
  rw [List.length_append]
  exact Nat.add_le_add h.len h'.len, fun s => by
  have h1 := h.bd s
  have h2 := h'.bd s
  rw [sumT_append, Nat.pow_succ]
  omega⟩
theorem Hp'.mul {d n j k : Nat} {l : List (Sr × Int)} (h : Hp' d n j l) {z : Int} (hz : z.natAbs < 2 ^ k) : Hp' d n (j + k) (mulL z l) := ⟨fun x hx => by
  obtain ⟨y, hy, rfl⟩ := List.mem_map.mp hx
  exact h.ok y hy, by unfold mulL; rw [List.length_map]; exact h.len, fun s => by
  rw [sum_mul, Int.natAbs_mul, Nat.pow_add]
  exact Nat.mul_lt_mul'' (h.bd s) hz⟩
theorem Tb.hp {d n : Nat} {t : Hs} (h : Tb d t n) : Hp' d n 140 t := ⟨fun x hx => ⟨(h.ok x hx).1, (h.ok x hx).2.1⟩, h.len, fun s => by
  rw [sumT_get h.nd]
  cases e : getH t s with
  | none => decide
  | some z => exact (h.ok (s, z) ((getH_mem h.nd).mpr e)).2.2⟩
theorem Hp'.tint {d n j : Nat} {l : List (Sr × Int)} (h : Hp' d n j l) {x : Sr × Int} (hx : x ∈ gatS l) : Bd j x.2 := by
  rw [← (mem_gatS.mp hx).2]
  exact h.bd x.1
theorem Hp'.rp {d n j k : Nat} {l : List (Sr × Int)} (h : Hp' d n j l) (j0 : 0 < k) (j1 : k ≤ 570) (hk : 2 ^ j ≤ 10 ^ k) : Rp (3 + n * (5 * 40 + k + 33)) 4 (hsD (gatS l)) := rp_hs (by decide) (by decide) j0 j1 (fun x hx => by
  obtain ⟨y, hy, e⟩ := gatS_from hx
  have := h.tint hx
  refine ⟨by rw [← e]; exact (h.ok y hy).2, Nat.lt_of_lt_of_le this hk⟩) h.gat.len
/-! ### sums and differences as they are due -/
theorem ne_self_w {s : Str} {Q : PyData → Prop} (q : Q (.bool false)) : oNe (.str s) (.str s) Q := by
  show Q (.bool (if true = true then !decide (s = s) else decide (s = s)))
  rw [if_pos rfl, decide_eq_true rfl]
  exact q
theorem eq_self_w {s : Str} {Q : PyData → Prop} (q : Q (.bool true)) : oEq (.str s) (.str s) Q := by
  show Q (.bool (if false = true then !decide (s = s) else decide (s = s)))
  rw [if_neg Bool.false_ne_true, decide_eq_true rfl]
  exact q
theorem bl_f {A B : Prop} (h : B) : bl1 (.bool false) (fun b => if b = true then A else B) := h
theorem isnot_w {Q : PyData → Prop} (q : Q (.bool false)) : oIs true (.bool true) (.bool true) Q := q
def vp__law_are_due : PSp := fun as Q => ∃ (d : Nat) (t u : Hs), as = [.dct true (entH t), .dct true (entH u)] ∧ Tb d t 24 ∧ Tb d u 24 ∧ Q (.bool true)
theorem vo__law_are_due {P : Program} {w : World} {K : PySem.W.Frag} {mg : Str → Option Value} {base : Heap} (T : Txt K mg) : GFn P w K mg base 9 T.a__law_are_due T.d__law_are_due ["_law_one", "_law_other"] (spV K w vp__law_are_due) := by
  refine fnV T.F__law_are_due sc__law_are_due vp__law_are_due (fun as Q h => ?_) (fun cdv A outer s H E hq hr => (qs_cons (qs_par (i := 2) (j := 3) sc__law_are_due.nd rfl rfl (by decide) rfl rfl (qao_v (vc__law_heap T hq (hr.mono (by decide)) (qaa_dct 0 qaa_nil)) (qao_v (vc__law_heap T hq (hr.mono (by decide)) (qaa_dct 1 qaa_nil)) qao_nil)) (by rfl))
    (qs_cons (qs_par (i := 4) (j := 5) sc__law_are_due.nd rfl rfl (by decide) rfl rfl (qao_v (q_callOfD (vo__law_heap T) (vo__law_summed T) hq (hr.mono (by decide)) (hr.mono (by decide)) (by rfl) T.m__law_heap T.F__law_heap.kp T.b__law_heap (by rfl) T.m__law_summed T.F__law_summed.kp T.b__law_summed (qaa_dct 0 (qaa_dct 1 (qaa_v qc_int qaa_nil)))) (qao_v (q_callOfD (vo__law_heap T) (vo__law_summed T) hq (hr.mono (by decide)) (hr.mono (by decide)) (by rfl) T.m__law_heap T.F__law_heap.kp T.b__law_heap (by rfl) T.m__law_summed T.F__law_summed.kp T.b__law_summed (qaa_dct 0 (qaa_dct 1 (qaa_v (q_neg qc_int) qaa_nil)))) qao_nil)) (by rfl))
    (qs_cons (qs_set 6 sc__law_are_due.nd rfl (Or.inl rfl) (q_tupL (ql_cons (vc_added T hq (hr.mono (by decide)) (qaa_v (qv 2) (qaa_v (qv 3) qaa_nil))) (ql_cons (vc_added T hq (hr.mono (by decide)) (qaa_v (qv 3) (qaa_v (qv 2) qaa_nil))) (ql_cons (q_callN (vo_added T) hq (hr.mono (by decide)) (by rfl) T.m_added T.F_added.kp T.kb_added_0_other_one pkb_added_0_other_one (qka_v (qv 3) (qka_v (qv 2) qka_nil))) ql_nil)))))
    (qs_cons (qs_if (qt_ne hr.units (q_B (call_reprA0 hq hr.units) lc_repr (by rfl) T.n_repr (by decide +kernel) (qab_cons (qvb 6) qab_nil)).b (q_B (call_reprA0 hq hr.units) lc_repr (by rfl) T.n_repr (by decide +kernel) (qab_cons (q_tupL (ql_cons (qv 4) (ql_cons (qv 4) (ql_cons (qv 4) ql_nil)))).b qab_nil)).b) (qs_one (qs_ret qc_bl.b)) qs_nil)
    (qs_cons (qs_set 7 sc__law_are_due.nd rfl (Or.inl rfl) (q_callOfD (vo__law_heap T) (vo__law_summed T) hq (hr.mono (by decide)) (hr.mono (by decide)) (by rfl) T.m__law_heap T.F__law_heap.kp T.b__law_heap (by rfl) T.m__law_summed T.F__law_summed.kp T.b__law_summed (qaa_dct 1 (qaa_dct 0 (qaa_v (q_neg qc_int) qaa_nil)))))
    (qs_cons (qs_set 6 sc__law_are_due.nd rfl (Or.inl rfl) (q_tupL (ql_cons (vc_taken T hq (hr.mono (by decide)) (qaa_v (qv 2) (qaa_v (qv 3) qaa_nil))) (ql_cons (vc_taken T hq (hr.mono (by decide)) (qaa_v (qv 3) (qaa_v (qv 2) qaa_nil))) (ql_cons (q_callN (vo_taken T) hq (hr.mono (by decide)) (by rfl) T.m_taken T.F_taken.kp T.kb_taken_0_other_one pkb_taken_0_other_one (qka_v (qv 3) (qka_v (qv 2) qka_nil))) ql_nil)))))
    (qs_cons (qs_if (qw_or (qt_ne hr.units (q_B (call_reprA0 hq hr.units) lc_repr (by rfl) T.n_repr (by decide +kernel) (qab_cons (qvb 6) qab_nil)).b (q_B (call_reprA0 hq hr.units) lc_repr (by rfl) T.n_repr (by decide +kernel) (qab_cons (q_tupL (ql_cons (qv 5) (ql_cons (qv 7) (ql_cons (qv 5) ql_nil)))).b qab_nil)).b) (qw_or (qt_isNot (vc_is_heap T hq (hr.mono (by decide)) (qaa_v (q_ix (qvb 6) qc_int.b) qaa_nil)).b qc_bl.b) (qw_or1 (qt_isNot (vc_is_heap T hq (hr.mono (by decide)) (qaa_v (qv 4) qaa_nil)).b qc_bl.b)))).t (qs_one (qs_ret qc_bl.b)) qs_nil)
    (qs_cons (qs_if (qw_and (qt_le (q_B call_lenK lc_len (by rfl) T.n_len (by decide +kernel) (qab_cons (qvb 4) qab_nil)).b qc_int.b) (qw_and1 (qt_ne hr.units (q_B (call_reprA0 hq hr.units) lc_repr (by rfl) T.n_repr (by decide +kernel) (qab_cons (q_tupL (ql_cons (vc_taken T hq (hr.mono (by decide)) (qaa_v (qv 4) (qaa_v (qv 3) qaa_nil))) (ql_cons (vc_taken T hq (hr.mono (by decide)) (qaa_v (qv 4) (qaa_v (qv 2) qaa_nil))) ql_nil))).b qab_nil)).b (q_B (call_reprA0 hq hr.units) lc_repr (by rfl) T.n_repr (by decide +kernel) (qab_cons (q_tupL (ql_cons (qv 2) (ql_cons (qv 3) ql_nil))).b qab_nil)).b))).t (qs_one (qs_ret qc_bl.b)) qs_nil)
    (qs_cons (qs_if (qw_and (qt_le (q_B call_lenK lc_len (by rfl) T.n_len (by decide +kernel) (qab_cons (qvb 5) qab_nil)).b qc_int.b) (qw_and1 (qt_ne hr.units (q_B (call_reprA0 hq hr.units) lc_repr (by rfl) T.n_repr (by decide +kernel) (qab_cons (q_tupL (ql_cons (vc_added T hq (hr.mono (by decide)) (qaa_v (qv 5) (qaa_v (qv 3) qaa_nil))) (ql_cons (vc_added T hq (hr.mono (by decide)) (qaa_v (qv 3) (qaa_v (qv 5) qaa_nil))) ql_nil))).b qab_nil)).b (q_B (call_reprA0 hq hr.units) lc_repr (by rfl) T.n_repr (by decide +kernel) (qab_cons (q_tupL (ql_cons (qv 2) (ql_cons (qv 2) ql_nil))).b qab_nil)).b))).t (qs_one (qs_ret qc_bl.b)) qs_nil)
    (qs_one (qs_ret (q_and (q_eq hr.units (q_B (call_reprA0 hq hr.units) lc_repr (by rfl) T.n_repr (by decide +kernel) (qab_cons (vc_added T hq (hr.mono (by decide)) (qaa_v (qv 2) (qaa_v (vc_times T hq (hr.mono (by decide)) (qaa_v (qv 3) (qaa_v (q_neg qc_int) qaa_nil))) qaa_nil))).b qab_nil)).b (q_B (call_reprA0 hq hr.units) lc_repr (by rfl) T.n_repr (by decide +kernel) (qab_cons (qvb 5) qab_nil)).b) (q_one (q_eq hr.units (q_B (call_reprA0 hq hr.units) lc_repr (by rfl) T.n_repr (by decide +kernel) (qab_cons (vc_taken T hq (hr.mono (by decide)) (qaa_v (qv 2) (qaa_v (vc_times T hq (hr.mono (by decide)) (qaa_v (qv 3) (qaa_v (q_neg qc_int) qaa_nil))) qaa_nil))).b qab_nil)).b (q_B (call_reprA0 hq hr.units) lc_repr (by rfl) T.n_repr (by decide +kernel) (qab_cons (qvb 4) qab_nil)).b))).b)))))))))))) (fun as Q h => ?_)
  · obtain ⟨d, t, u, rfl, hT, hU, q⟩ := h
    rfl
  obtain ⟨d, t, u, rfl, hT, hU, q⟩ := h
  have A := hT.hp
  have B := hU.hp
  have tl := hT.len
  have ul := hU.len
  have PP := A.add B
  have MM := A.add B.neg
  have KK := B.add A.neg
  have e43 : 2 ^ 141 ≤ 10 ^ 43 := by decide +kernel
  have e43' : 2 ^ 140 ≤ 10 ^ 43 := by decide +kernel
  have RA := A.rp (k := 43) (by decide) (by decide) e43'
  have RB := B.rp (k := 43) (by decide) (by decide) e43'
  have RP := PP.rp (k := 43) (by decide) (by decide) e43
  have RM := MM.rp (k := 43) (by decide) (by decide) e43
  have RK := KK.rp (k := 43) (by decide) (by decide) e43
  clear e43 e43'
  have oA := A.hs
  have oB := B.hs
  have oP := PP.hs
  have oM := MM.hs
  have lA := A.gat.len
  have lB := B.gat.len
  have lP := PP.gat.len
  have lM := MM.gat.len
  have q1 : gatS (gatS t ++ gatS u) = gatS (t ++ u) := gatS_congr fun s => by rw [sumT_append, sumT_append, sum_gat, sum_gat]
  have q2 : gatS (gatS u ++ gatS t) = gatS (t ++ u) := gatS_congr fun s => by rw [sumT_append, sumT_append, sum_gat, sum_gat, Int.add_comm]
  have q3 : gatS (gatS t ++ negL (gatS u)) = gatS (t ++ negL u) := gatS_congr fun s => by rw [sumT_append, sumT_append, sum_neg, sum_neg, sum_gat, sum_gat]
  have q4 : gatS (gatS u ++ negL (gatS t)) = gatS (u ++ negL t) := gatS_congr fun s => by rw [sumT_append, sumT_append, sum_neg, sum_neg, sum_gat, sum_gat]
  have q5 : gatS (gatS (t ++ u) ++ negL (gatS u)) = gatS t := gatS_congr fun s => by rw [sumT_append, sum_neg, sum_gat, sum_gat, sumT_append]; omega
  have q6 : gatS (gatS (t ++ u) ++ negL (gatS t)) = gatS u := gatS_congr fun s => by rw [sumT_append, sum_neg, sum_gat, sum_gat, sumT_append]; omega
  have q7 : gatS (gatS (t ++ negL u) ++ gatS u) = gatS t := gatS_congr fun s => by rw [sumT_append, sum_gat, sum_gat, sumT_append, sum_neg]; omega
  have q8 : gatS (gatS u ++ gatS (t ++ negL u)) = gatS t := gatS_congr fun s => by rw [sumT_append, sum_gat, sum_gat, sumT_append, sum_neg]; omega
  have q10 : gatS (gatS t ++ gatS (mulL (-1) (gatS u))) = gatS (t ++ negL u) := gatS_congr fun s => by rw [sumT_append, sumT_append, sum_gat, sum_gat, sum_mul, sum_neg, sum_gat]; omega
  have q11 : gatS (gatS t ++ negL (gatS (mulL (-1) (gatS u)))) = gatS (t ++ u) := gatS_congr fun s => by rw [sumT_append, sumT_append, sum_gat, sum_neg, sum_gat, sum_mul, sum_gat]; omega
  have NN := B.gat.mul (z := -1) (k := 1) (by decide)
  have oN := NN.hs
  have lN := NN.gat.len
  have cm : ∀ z n : Int, Bd 140 z → (n = 1 ∨ n = -1) → CMulW n z ∧ CMulW z n := fun z n hz hn => by
    have nB : Bd 2 n := by
      unfold Bd
      rcases hn with rfl | rfl <;> decide
    exact ⟨nB.mulOk hz, hz.mulOk nB⟩
  refine ⟨t, rfl, by omega, hT.nd, ⟨u, rfl, by omega, hU.nd, And.intro rfl ?_⟩⟩
  refine ⟨t, u, 1, rfl, by omega, by omega, hT.nd, hU.nd, fun x hx => (cm x.2 1 (hU.ok x hx).2.2 (.inl rfl)).1, fun v lv nv sv => ⟨v, rfl, by omega, nv, ?_⟩⟩
  rw [show gatS v = gatS (t ++ u) from gatS_congr fun s => by rw [sv, sumT_append]; omega]
  refine ⟨t, u, -1, rfl, by omega, by omega, hT.nd, hU.nd, fun x hx => (cm x.2 (-1) (hU.ok x hx).2.2 (.inr rfl)).1, fun v' lv' nv' sv' => ⟨v', rfl, by omega, nv', And.intro rfl ?_⟩⟩
  rw [show gatS v' = gatS (t ++ negL u) from gatS_congr fun s => by rw [sv', sumT_append, sum_neg]; omega]
  refine at_st [some (.dct true (entH t)), some (.dct true (entH u)), some (.val (hsD (gatS t))), some (.val (hsD (gatS u))), some (.val (hsD (gatS (t ++ u)))), some (.val (hsD (gatS (t ++ negL u)))), none, none] rfl ?_
  refine ⟨gatS t, gatS u, d, rfl, oA, oB, by omega, by omega, ⟨gatS u, gatS t, d, rfl, oB, oA, by omega, by omega, ⟨gatS t, gatS u, d, rfl, oA, oB, by omega, by omega, ?_⟩⟩⟩
  rw [q1, q2]
  have R3 := Rp.three RP RP RP
  refine And.intro R3.sh (And.intro R3.nd (And.intro (Nat.le_trans R3.dp (by decide)) (And.intro (Nat.le_trans R3.ln (by decide)) ?_)))
  refine And.intro R3.sh (And.intro R3.nd (And.intro (Nat.le_trans R3.dp (by decide)) (And.intro (Nat.le_trans R3.ln (by decide)) ?_)))
  refine ne_self_w (bl_f ?_)
  refine ⟨u, t, -1, rfl, by omega, by omega, hU.nd, hT.nd, fun x hx => (cm x.2 (-1) (hT.ok x hx).2.2 (.inr rfl)).1, fun w lw nw sw => ⟨w, rfl, by omega, nw, ?_⟩⟩
  rw [show gatS w = gatS (u ++ negL t) from gatS_congr fun s => by rw [sw, sumT_append, sum_neg]; omega]
  refine at_st [some (.dct true (entH t)), some (.dct true (entH u)), some (.val (hsD (gatS t))), some (.val (hsD (gatS u))), some (.val (hsD (gatS (t ++ u)))), some (.val (hsD (gatS (t ++ negL u)))), some (.val (.tuple [hsD (gatS (t ++ u)), hsD (gatS (t ++ u)), hsD (gatS (t ++ u))])), some (.val (hsD (gatS (u ++ negL t))))] rfl ?_
  refine ⟨gatS t, gatS u, d, rfl, oA, oB, by omega, by omega, ⟨gatS u, gatS t, d, rfl, oB, oA, by omega, by omega, ⟨gatS t, gatS u, d, rfl, oA, oB, by omega, by omega, ?_⟩⟩⟩
  rw [q3, q4]
  have R4 := Rp.three RM RK RM
  refine And.intro R4.sh (And.intro R4.nd (And.intro (Nat.le_trans R4.dp (by decide)) (And.intro (Nat.le_trans R4.ln (by decide)) ?_)))
  refine And.intro R4.sh (And.intro R4.nd (And.intro (Nat.le_trans R4.dp (by decide)) (And.intro (Nat.le_trans R4.ln (by decide)) ?_)))
  refine ne_self_w (bl_f ?_)
  refine ⟨gatS (t ++ negL u), d, rfl, oM, by omega, isnot_w (bl_f ?_)⟩
  refine ⟨gatS (t ++ u), d, rfl, oP, by omega, isnot_w (bl_f ?_)⟩
  have R5 := Rp.two RA RB
  have R6 := Rp.two RA RA
  refine at_st [some (.dct true (entH t)), some (.dct true (entH u)), some (.val (hsD (gatS t))), some (.val (hsD (gatS u))), some (.val (hsD (gatS (t ++ u)))), some (.val (hsD (gatS (t ++ negL u)))), some (.val (.tuple [hsD (gatS (t ++ negL u)), hsD (gatS (u ++ negL t)), hsD (gatS (t ++ negL u))])), some (.val (hsD (gatS (u ++ negL t))))] rfl ?_
  refine ifd (fun c => ?_) (fun c => iff' ?_)
  focus
    refine ⟨gatS (t ++ u), gatS u, d, rfl, oP, oB, by omega, by omega, ⟨gatS (t ++ u), gatS t, d, rfl, oP, oA, by omega, by omega, ?_⟩⟩
    rw [q5, q6]
    refine And.intro R5.sh (And.intro R5.nd (And.intro (Nat.le_trans R5.dp (by decide)) (And.intro (Nat.le_trans R5.ln (by decide)) ?_)))
    refine And.intro R5.sh (And.intro R5.nd (And.intro (Nat.le_trans R5.dp (by decide)) (And.intro (Nat.le_trans R5.ln (by decide)) ?_)))
    refine ne_self_w (bl_f ?_)
  all_goals
    refine at_st [some (.dct true (entH t)), some (.dct true (entH u)), some (.val (hsD (gatS t))), some (.val (hsD (gatS u))), some (.val (hsD (gatS (t ++ u)))), some (.val (hsD (gatS (t ++ negL u)))), some (.val (.tuple [hsD (gatS (t ++ negL u)), hsD (gatS (u ++ negL t)), hsD (gatS (t ++ negL u))])), some (.val (hsD (gatS (u ++ negL t))))] rfl ?_
    refine ifd (fun c2 => ?_) (fun c2 => iff' ?_)
    focus
      refine ⟨gatS (t ++ negL u), gatS u, d, rfl, oM, oB, by omega, by omega, ⟨gatS u, gatS (t ++ negL u), d, rfl, oB, oM, by omega, by omega, ?_⟩⟩
      rw [q7, q8]
      refine And.intro R6.sh (And.intro R6.nd (And.intro (Nat.le_trans R6.dp (by decide)) (And.intro (Nat.le_trans R6.ln (by decide)) ?_)))
      refine And.intro R6.sh (And.intro R6.nd (And.intro (Nat.le_trans R6.dp (by decide)) (And.intro (Nat.le_trans R6.ln (by decide)) ?_)))
      refine ne_self_w (bl_f ?_)
    all_goals
      refine at_st [some (.dct true (entH t)), some (.dct true (entH u)), some (.val (hsD (gatS t))), some (.val (hsD (gatS u))), some (.val (hsD (gatS (t ++ u)))), some (.val (hsD (gatS (t ++ negL u)))), some (.val (.tuple [hsD (gatS (t ++ negL u)), hsD (gatS (u ++ negL t)), hsD (gatS (t ++ negL u))])), some (.val (hsD (gatS (u ++ negL t))))] rfl ?_
      refine ⟨gatS u, d, -1, rfl, oB, by omega, fun x hx => (cm x.2 (-1) (B.tint hx) (.inr rfl)).2, ⟨gatS t, gatS (mulL (-1) (gatS u)), d, rfl, oA, oN, by omega, by omega, ?_⟩⟩
      rw [q10]
      refine And.intro RM.sh (And.intro RM.nd (And.intro (Nat.le_trans RM.dp (by decide)) (And.intro (Nat.le_trans RM.ln (by decide)) ?_)))
      refine And.intro RM.sh (And.intro RM.nd (And.intro (Nat.le_trans RM.dp (by decide)) (And.intro (Nat.le_trans RM.ln (by decide)) ?_)))
      refine eq_self_w ?_
      refine ⟨gatS u, d, -1, rfl, oB, by omega, fun x hx => (cm x.2 (-1) (B.tint hx) (.inr rfl)).2, ⟨gatS t, gatS (mulL (-1) (gatS u)), d, rfl, oA, oN, by omega, by omega, ?_⟩⟩
      rw [q11]
      refine And.intro RP.sh (And.intro RP.nd (And.intro (Nat.le_trans RP.dp (by decide)) (And.intro (Nat.le_trans RP.ln (by decide)) ?_)))
      refine And.intro RP.sh (And.intro RP.nd (And.intro (Nat.le_trans RP.dp (by decide)) (And.intro (Nat.le_trans RP.ln (by decide)) ?_)))
      refine eq_self_w ?_
      exact q
theorem vc__law_are_due {K : PySem.W.Frag} {mg : Str → Option Value} {X : Cx} {p pos : Pos} {e : Expr} {es : List Expr} {po : WAO} (T : Txt K mg) (hq : Quiet X.A) (hr : Room 9 X.A) (ha : QAA X (e :: es) po) (hg : Gl X "_law_are_due" := by rfl)
    (he : starEach (e :: es) X.env = (false, eval e X.env) :: starEach es X.env := by rfl) (hpl : (backTo pos (starEach es X.env)).any (·.1) = false := by rfl) (hK : X.K = K := by rfl) (hmg : X.mg = mg := by rfl) :
    QE X (.Call (.Name "_law_are_due" p) (e :: es) [] pos) (wCall vp__law_are_due po) := by
  subst hK hmg
  exact q_call (vo__law_are_due T) hq hr hg T.m__law_are_due T.F__law_are_due.kp T.b__law_are_due ha (by decide) he hpl

end KL
namespace KL
open PySem PySem.Spec PyProof.Rows L2 RZ StX SrtO Kw KM PV
/-! ### multiples as they are due -/
theorem gatS_nil : gatS [] = [] := by
  have h := gatS_len []
  exact List.eq_nil_of_length_eq_zero (by simpa using h)
theorem mul_self {d : Nat} {h : Hs} (o : HsOk d h) {k : Int} : gatS (mulL k h) = if k ≠ 0 then mulL k h else [] := by
  by_cases c : k ≠ 0
  · rw [if_pos c]
    refine gatS_self (d := d) ⟨fun x hx => ?_, fun x hx => ?_, ?_⟩
    · obtain ⟨y, hy, rfl⟩ := List.mem_map.mp hx
      exact o.sr y hy
    · obtain ⟨y, hy, rfl⟩ := List.mem_map.mp hx
      exact Int.mul_ne_zero (o.nz y hy) c
    · unfold mulL
      rw [List.map_map]
      exact o.asc
  · rw [if_neg c, ← gatS_nil]
    have : k = 0 := Classical.byContradiction c
    subst this
    exact gatS_congr fun s => by rw [sum_mul, Int.mul_zero]; rfl
theorem due_fm (k : Int) : ∀ h : Hs, (h.filterMap fun x => if k ≠ 0 then some (prD (x.1, x.2 * k)) else none) = (if k ≠ 0 then mulL k h else []).map prD := by
  intro h
  by_cases c : k ≠ 0
  · rw [if_pos c]
    unfold mulL
    rw [List.map_map]
    induction h with
    | nil => rfl
    | cons x r ih => rw [List.filterMap_cons, if_pos c, ih]; rfl
  · rw [if_neg c]
    induction h with
    | nil => rfl
    | cons x r ih => rw [List.filterMap_cons, if_neg c]; exact ih
def vp__law_are_multiples : PSp := fun as Q => ∃ (d : Nat) (t : Hs), as = [.deck, .dct true (entH t)] ∧ Tb d t 24 ∧ Q (.bool true)
theorem vo__law_are_multiples {P : Program} {w : World} {K : PySem.W.Frag} {mg : Str → Option Value} {base : Heap} (T : Txt K mg) : GFn P w K mg base 9 T.a__law_are_multiples T.d__law_are_multiples ["_law_deck_here", "_law_one"] (spV K w vp__law_are_multiples) := by
  refine fnV T.F__law_are_multiples sc__law_are_multiples vp__law_are_multiples (fun as Q h => ?_) (fun cdv A outer s H E hq hr => (qs_cons (qs_set 2 sc__law_are_multiples.nd rfl (Or.inl rfl) (vc__law_heap T hq (hr.mono (by decide)) (qaa_dct 1 qaa_nil)))
    (qs_cons (qs_for PassesOwn.never (qi_seq (q_tupL (ql_cons qc_int (ql_cons qc_int (ql_cons (q_neg qc_int) (ql_cons qc_int (ql_cons (vc__law_signed T hq (hr.mono (by decide)) (qaa_deck 0 (qaa_v (q_pow qc_int.b qc_int.b) qaa_nil))) (ql_cons (vc__law_signed T hq (hr.mono (by decide)) (qaa_deck 0 (qaa_v (q_pow qc_int.b qc_int.b) qaa_nil))) ql_nil)))))))) (QGn.g (vs := [3]) (qg_name 3 sc__law_are_multiples.nd rfl (Or.inr rfl))) (qs_cons (qs_set 4 sc__law_are_multiples.nd rfl (Or.inl rfl) (q_Ty call_tupleK lc_tupOf (by rfl) T.n_tuple (by decide +kernel) (qab_cons (q_lc [("_law_stripe_here", 7), ("_law_tint", 8)] sc__law_are_multiples.nd (qi_seqB (qvb 2)) (blkOk_by (N := N__law_are_multiples) (sc := defScope s__law_are_multiples) (by decide +kernel)) (fun _ _ _ _ _ => (qg_tup (qgs_cons (qg_name 7 sc__law_are_multiples.nd rfl (Or.inl rfl)) (qgs_cons (qg_name 8 sc__law_are_multiples.nd rfl (Or.inl rfl)) qgs_nil)))) (fun _ _ _ _ _ => (qts_one (qt_ne hr.units (qvb 3) qc_int.b))) (fun _ _ _ _ _ => (q_tupL (ql_cons (qv 7) (ql_cons (q_mul (qvb 8) (qvb 3)) ql_nil))))).e.b qab_nil)))
        (qs_one (qs_if (qt_ne hr.units (q_B (call_reprA0 hq hr.units) lc_repr (by rfl) T.n_repr (by decide +kernel) (qab_cons (q_tupL (ql_cons (vc_times T hq (hr.mono (by decide)) (qaa_v (qv 2) (qaa_v (qv 3) qaa_nil))) (ql_cons (q_callN (vo_times T) hq (hr.mono (by decide)) (by rfl) T.m_times T.F_times.kp T.kb_times_0_number_heap pkb_times_0_number_heap (qka_v (qv 3) (qka_v (qv 2) qka_nil))) ql_nil))).b qab_nil)).b (q_B (call_reprA0 hq hr.units) lc_repr (by rfl) T.n_repr (by decide +kernel) (qab_cons (q_tupL (ql_cons (qv 4) (ql_cons (qv 4) ql_nil))).b qab_nil)).b) (qs_one (qs_ret qc_bl.b)) qs_nil))))
    (qs_cons (qs_set 5 sc__law_are_multiples.nd rfl (Or.inl rfl) (vc__law_signed T hq (hr.mono (by decide)) (qaa_deck 0 (qaa_v qc_int qaa_nil))))
    (qs_cons (qs_if (qt_ne hr.units (q_B (call_reprA0 hq hr.units) lc_repr (by rfl) T.n_repr (by decide +kernel) (qab_cons (vc_times T hq (hr.mono (by decide)) (qaa_v (vc_times T hq (hr.mono (by decide)) (qaa_v (qv 2) (qaa_v qc_int qaa_nil))) (qaa_v (qv 5) qaa_nil))).b qab_nil)).b (q_B (call_reprA0 hq hr.units) lc_repr (by rfl) T.n_repr (by decide +kernel) (qab_cons (vc_times T hq (hr.mono (by decide)) (qaa_v (qv 2) (qaa_v (q_mul qc_int.b (qvb 5)) qaa_nil))).b qab_nil)).b) (qs_one (qs_ret qc_bl.b)) qs_nil)
    (qs_cons (qs_set 6 sc__law_are_multiples.nd rfl (Or.inl rfl) (q_tupL (ql_cons (vc_added T hq (hr.mono (by decide)) (qaa_v (qv 2) (qaa_v (qv 2) qaa_nil))) (ql_cons (vc_taken T hq (hr.mono (by decide)) (qaa_v (qv 2) (qaa_v (qv 2) qaa_nil))) (ql_cons (vc_added T hq (hr.mono (by decide)) (qaa_v (qv 2) (qaa_v (q_tupL ql_nil) qaa_nil))) (ql_cons (vc_added T hq (hr.mono (by decide)) (qaa_v (q_tupL ql_nil) (qaa_v (qv 2) qaa_nil))) (ql_cons (vc_taken T hq (hr.mono (by decide)) (qaa_v (qv 2) (qaa_v (q_tupL ql_nil) qaa_nil))) (ql_cons (vc_taken T hq (hr.mono (by decide)) (qaa_v (q_tupL ql_nil) (qaa_v (qv 2) qaa_nil))) ql_nil))))))))
    (qs_one (qs_ret (q_eq hr.units (q_B (call_reprA0 hq hr.units) lc_repr (by rfl) T.n_repr (by decide +kernel) (qab_cons (qvb 6) qab_nil)).b (q_B (call_reprA0 hq hr.units) lc_repr (by rfl) T.n_repr (by decide +kernel) (qab_cons (q_tupL (ql_cons (vc_times T hq (hr.mono (by decide)) (qaa_v (qv 2) (qaa_v qc_int qaa_nil))) (ql_cons (q_tupL ql_nil) (ql_cons (qv 2) (ql_cons (qv 2) (ql_cons (qv 2) (ql_cons (vc_times T hq (hr.mono (by decide)) (qaa_v (qv 2) (qaa_v (q_neg qc_int) qaa_nil))) ql_nil))))))).b qab_nil)).b).b)))))))) (fun as Q h => ?_)
  · obtain ⟨d, t, rfl, hT, q⟩ := h
    rfl
  obtain ⟨d, t, rfl, hT, q⟩ := h
  have A := hT.hp
  have tl := hT.len
  have e63 : 2 ^ (140 + 67) ≤ 10 ^ 63 := by decide +kernel
  have e43 : 2 ^ 140 ≤ 10 ^ 63 := by decide +kernel
  have e44 : 2 ^ 141 ≤ 10 ^ 63 := by decide +kernel
  have R0 := A.rp (k := 63) (by decide) (by decide) e43
  have RA2 := (A.gat.add A.gat).rp (k := 63) (by decide) (by decide) e44
  have RS2 := (A.gat.add A.gat.neg).rp (k := 63) (by decide) (by decide) e44
  have RK : ∀ k : Int, k.natAbs < 2 ^ 67 → Rp (3 + 24 * (5 * 40 + 63 + 33)) 4 (hsD (gatS (mulL k (gatS t)))) := fun k hk => (A.gat.mul hk).rp (k := 63) (by decide) (by decide) e63
  clear e63 e43 e44
  have oA := A.hs
  have lA := A.gat.len
  have o0 : HsOk d [] := ⟨fun _ h => absurd h List.not_mem_nil, fun _ h => absurd h List.not_mem_nil, List.Pairwise.nil⟩
  have cm : ∀ x ∈ gatS t, ∀ k : Int, k.natAbs < 2 ^ 67 → CMulW x.2 k := fun x hx k hk => (A.tint hx).mulOk (show Bd 67 k from hk)
  have p20 : CPow 10 20 := ⟨by decide, by decide, by decide⟩
  have b20 : Bd 1500 ((10 : Int) ^ Int.toNat 20) := by unfold Bd; decide +kernel
  have e20 : (10 : Int) ^ Int.toNat 20 < 2 ^ 67 := by decide +kernel
  refine ⟨t, rfl, by omega, hT.nd, And.intro p20 ⟨_, rfl, by decide +kernel, b20, fun a a0 a1 => And.intro p20 ⟨_, rfl, by decide +kernel, b20, fun b b0 b1 => ?_⟩⟩⟩
  have ab : a.natAbs < 2 ^ 67 := by omega
  have bb : b.natAbs < 2 ^ 67 := by omega
  clear a0 a1 b0 b1 e20
  refine for_w (ds := [.int 0, .int 1, .int (-1), .int 2, .int a, .int b]) (fun z : Option AV × Option AV => [some .deck, some (.dct true (entH t)), some (.val (hsD (gatS t))), z.1, z.2, none, none, none, none]) (fun _ _ => True) (none, none) rfl trivial (fun i x ⟨z3, z4⟩ hx _ => ?_) (fun ⟨z3, z4⟩ _ => ?_)
  · obtain ⟨k, rfl, hk⟩ : ∃ k : Int, x = .int k ∧ k.natAbs < 2 ^ 67 := by
      have hm := List.mem_of_getElem? hx
      simp only [List.mem_cons, List.not_mem_nil, or_false] at hm
      rcases hm with rfl | rfl | rfl | rfl | rfl | rfl
      · exact ⟨0, rfl, by decide⟩
      · exact ⟨1, rfl, by decide⟩
      · exact ⟨-1, rfl, by decide⟩
      · exact ⟨2, rfl, by decide⟩
      · exact ⟨a, rfl, ab⟩
      · exact ⟨b, rfl, bb⟩
    refine And.intro (by rw [List.length_map]; omega) (comp_fmA (enc := prD) (l := gatS t) (fun x => if k ≠ 0 then some (prD (x.1, x.2 * k)) else none) (fun i x hx R hR => ?_) ?_)
    · refine ifn (fun c => ?_) (fun c => ?_)
      · rw [if_pos c] at hR
        exact And.intro (cm x (List.mem_of_getElem? hx) k hk) hR
      · rw [if_neg (fun z => z c)] at hR
        exact hR
    · rw [due_fm, ← mul_self oA]
      refine ⟨gatS t, d, k, rfl, oA, by omega, fun x hx => cm x hx k hk, ⟨gatS t, d, k, rfl, oA, by omega, fun x hx => cm x hx k hk, ?_⟩⟩
      have R2 := Rp.two (RK k hk) (RK k hk)
      refine And.intro R2.sh (And.intro R2.nd (And.intro (Nat.le_trans R2.dp (by decide)) (And.intro (Nat.le_trans R2.ln (by decide)) ?_)))
      refine And.intro R2.sh (And.intro R2.nd (And.intro (Nat.le_trans R2.dp (by decide)) (And.intro (Nat.le_trans R2.ln (by decide)) ?_)))
      exact ne_self_w (bl_f ⟨(some (.val (.int k)), some (.val (hsD (gatS (mulL k (gatS t)))))), rfl, trivial⟩)
  · refine ⟨100, rfl, by decide, by unfold Bd; decide +kernel, fun c c0 c1 => ?_⟩
    have c2 : (2 * c).natAbs < 2 ^ 67 := by omega
    have N2 := A.gat.mul (z := 2) (k := 2) (by decide)
    have o2 := N2.hs
    have l2 := N2.gat.len
    have eq : gatS (mulL c (gatS (mulL 2 (gatS t)))) = gatS (mulL (2 * c) (gatS t)) := gatS_congr fun s => by rw [sum_mul, sum_gat, sum_mul, sum_mul, Int.mul_assoc]
    refine ⟨gatS t, d, 2, rfl, oA, by omega, fun x hx => cm x hx 2 (by decide), ⟨gatS (mulL 2 (gatS t)), d, c, rfl, o2, by omega, fun x hx => (N2.tint hx).mulOk (show Bd 67 c by unfold Bd; omega), ?_⟩⟩
    rw [eq]
    have R2 := RK (2 * c) c2
    refine And.intro R2.sh (And.intro R2.nd (And.intro (Nat.le_trans R2.dp (by decide)) (And.intro (Nat.le_trans R2.ln (by decide)) ?_)))
    refine And.intro ((show Bd 2 (2 : Int) by unfold Bd; decide).mulOk (show Bd 67 c by unfold Bd; omega)) ⟨gatS t, d, 2 * c, rfl, oA, by omega, fun x hx => cm x hx (2 * c) c2, ?_⟩
    refine And.intro R2.sh (And.intro R2.nd (And.intro (Nat.le_trans R2.dp (by decide)) (And.intro (Nat.le_trans R2.ln (by decide)) ?_)))
    refine ne_self_w (bl_f ?_)
    refine at_st [some .deck, some (.dct true (entH t)), some (.val (hsD (gatS t))), z3, z4, some (.val (.int c)), none, none, none] rfl ?_
    refine ⟨gatS t, gatS t, d, rfl, oA, oA, by omega, by omega, ⟨gatS t, gatS t, d, rfl, oA, oA, by omega, by omega, ⟨gatS t, [], d, rfl, oA, o0, by omega, Nat.zero_le _, ⟨[], gatS t, d, rfl, o0, oA, Nat.zero_le _, by omega, ⟨gatS t, [], d, rfl, oA, o0, by omega, Nat.zero_le _, ⟨[], gatS t, d, rfl, o0, oA, Nat.zero_le _, by omega, ?_⟩⟩⟩⟩⟩⟩
    have g1 : gatS (gatS t ++ gatS t) = gatS (mulL 2 (gatS t)) := gatS_congr fun s => by rw [sumT_append, sum_mul]; omega
    have g2 : gatS (gatS t ++ negL (gatS t)) = [] := by
      rw [← gatS_nil]
      exact gatS_congr fun s => by rw [sumT_append, sum_neg]; show _ = (0 : Int); omega
    have g3 : gatS (gatS t ++ []) = gatS t := gatS_congr fun s => by rw [List.append_nil, sum_gat]
    have g4 : gatS ([] ++ gatS t) = gatS t := gatS_congr fun s => by rw [List.nil_append, sum_gat]
    have g5 : gatS (gatS t ++ negL []) = gatS t := by rw [show negL [] = [] from rfl]; exact g3
    have g6 : gatS ([] ++ negL (gatS t)) = gatS (mulL (-1) (gatS t)) := gatS_congr fun s => by rw [List.nil_append, sum_neg, sum_mul]; omega
    rw [g1, g2, g3, g4, g5, g6]
    have E0 : Rp (3 + 24 * (5 * 40 + 63 + 33)) 4 (hsD []) := by
      have := R0
      exact (rp_hs (k := 40) (j := 63) (n := 24) (by decide) (by decide) (by decide) (by decide) (hs := []) (fun x hx => absurd hx List.not_mem_nil) (Nat.zero_le _))
    have R6 : Rp (3 + 6 * (3 + 24 * (5 * 40 + 63 + 33) + 2)) 5 (.tuple [hsD (gatS (mulL 2 (gatS t))), hsD [], hsD (gatS t), hsD (gatS t), hsD (gatS t), hsD (gatS (mulL (-1) (gatS t)))]) := Rp.tup (n := 3 + 24 * (5 * 40 + 63 + 33)) (k := 4) (fun e he => by
      simp only [List.mem_cons, List.not_mem_nil, or_false] at he
      rcases he with rfl | rfl | rfl | rfl | rfl | rfl
      · exact RK 2 (by decide)
      · exact E0
      · exact R0
      · exact R0
      · exact R0
      · exact RK (-1) (by decide)) (Nat.le_refl _)
    refine And.intro R6.sh (And.intro R6.nd (And.intro (Nat.le_trans R6.dp (by decide)) (And.intro (Nat.le_trans R6.ln (by decide)) ?_)))
    refine ⟨gatS t, d, 2, rfl, oA, by omega, fun x hx => cm x hx 2 (by decide), ⟨gatS t, d, -1, rfl, oA, by omega, fun x hx => cm x hx (-1) (by decide), ?_⟩⟩
    refine And.intro R6.sh (And.intro R6.nd (And.intro (Nat.le_trans R6.dp (by decide)) (And.intro (Nat.le_trans R6.ln (by decide)) ?_)))
    exact eq_self_w q
theorem vc__law_are_multiples {K : PySem.W.Frag} {mg : Str → Option Value} {X : Cx} {p pos : Pos} {e : Expr} {es : List Expr} {po : WAO} (T : Txt K mg) (hq : Quiet X.A) (hr : Room 9 X.A) (ha : QAA X (e :: es) po) (hg : Gl X "_law_are_multiples" := by rfl)
    (he : starEach (e :: es) X.env = (false, eval e X.env) :: starEach es X.env := by rfl) (hpl : (backTo pos (starEach es X.env)).any (·.1) = false := by rfl) (hK : X.K = K := by rfl) (hmg : X.mg = mg := by rfl) :
    QE X (.Call (.Name "_law_are_multiples" p) (e :: es) [] pos) (wCall vp__law_are_multiples po) := by
  subst hK hmg
  exact q_call (vo__law_are_multiples T) hq hr hg T.m__law_are_multiples T.F__law_are_multiples.kp T.b__law_are_multiples ha (by decide) he hpl

end KL
namespace KL
open PySem PySem.Spec PyProof.Rows L2 RZ StX SrtO Kw KM PV
theorem bl_nt {A B : Prop} (h : B) : bl1 (.bool true) (fun b => (fun b => if b = true then A else B) (!b)) := h
theorem ok_law {P : Program} {w : World} {K : PySem.W.Frag} {mg : Str → Option Value} {base : Heap} (T : Txt K mg) : GFn P w K mg base 10 T.a_law T.d_law ["_law_script"] (sp_law K) := by
  refine law_V (x := "") T.F_law sc_law (i := 1) rfl (fun cdv A outer s H E hq hr => ps_set (i := 1) sc_law.nd rfl (Or.inl rfl) (cd__law_deck T (hr.mono (by decide)) (pa_cons (pv 0) pa_nil))) (fun cdv A outer s H E hq hr => (qs_cons (qs_set 2 sc_law.nd rfl (Or.inl rfl) (q_add qc_int.b (vc__law_draw T hq (hr.mono (by decide)) (qaa_deck 1 (qaa_v qc_int qaa_nil))).b))
    (qs_cons (qs_callD2 3 4 sc_law.nd rfl rfl (Or.inl rfl) (Or.inl rfl) (vo__law_drawn T) hq (hr.mono (by decide)) (by rfl) T.m__law_drawn T.F__law_drawn.kp T.b__law_drawn (qaa_deck 1 (qaa_v (qv 2) qaa_nil)))
    (qs_cons (qs_if (qw_or (qt_not (qt_val (vc__law_are_due T hq (hr.mono (by decide)) (qaa_dct 3 (qaa_dct 4 qaa_nil))))) (qw_or (qt_not (qt_val (vc__law_are_multiples T hq (hr.mono (by decide)) (qaa_deck 1 (qaa_dct 3 qaa_nil))))) (qw_or1 (qt_not (qt_val (vc__law_are_multiples T hq (hr.mono (by decide)) (qaa_deck 1 (qaa_dct 4 qaa_nil)))))))).t (qs_one (qs_ret qc_bl.b)) qs_nil)
    (qs_one (qs_ret (q_eq hr.units (q_B (call_reprA0 hq hr.units) lc_repr (by rfl) T.n_repr (by decide +kernel) (qab_cons (q_tupL (ql_cons (vc_added T hq (hr.mono (by decide)) (qaa_v (q_tupL ql_nil) (qaa_v (q_tupL ql_nil) qaa_nil))) (ql_cons (vc_taken T hq (hr.mono (by decide)) (qaa_v (q_tupL ql_nil) (qaa_v (q_tupL ql_nil) qaa_nil))) (ql_cons (vc_times T hq (hr.mono (by decide)) (qaa_v (q_tupL ql_nil) (qaa_v qc_int qaa_nil))) (ql_cons (vc_times T hq (hr.mono (by decide)) (qaa_v (q_tupL ql_nil) (qaa_v qc_int qaa_nil))) ql_nil))))).b qab_nil)).b qc_str.b).b)))))) (by decide) ?_
  refine ⟨3, rfl, by decide, by decide, fun d0 d1 d2 => ?_⟩
  obtain ⟨d, rfl⟩ : ∃ d : Nat, d0 = (d : Int) := ⟨d0.toNat, by omega⟩
  refine ⟨1 + d, rfl, by omega, by omega, fun t u hT hU => ?_⟩
  refine ⟨1 + d, t, u, rfl, hT, hU, bl_nt ?_⟩
  refine ⟨1 + d, t, rfl, hT, bl_nt ?_⟩
  refine ⟨1 + d, u, rfl, hU, bl_nt ?_⟩
  have o0 : HsOk 1 [] := ⟨fun _ h => absurd h List.not_mem_nil, fun _ h => absurd h List.not_mem_nil, List.Pairwise.nil⟩
  refine ⟨[], [], 1, rfl, o0, o0, Nat.zero_le _, Nat.zero_le _, ⟨[], [], 1, rfl, o0, o0, Nat.zero_le _, Nat.zero_le _, ⟨[], 1, 7, rfl, o0, Nat.zero_le _, fun _ h => absurd h List.not_mem_nil, ⟨[], 1, 0, rfl, o0, Nat.zero_le _, fun _ h => absurd h List.not_mem_nil, ?_⟩⟩⟩⟩
  rw [show gatS ([] ++ []) = [] from gatS_nil, show gatS ([] ++ negL []) = [] from gatS_nil, show gatS (mulL 7 []) = [] from gatS_nil, show gatS (mulL 0 []) = [] from gatS_nil]
  have Rn := rp_hs (k := 1) (j := 1) (n := 0) (hs := []) (by decide) (by decide) (by decide) (by decide) (fun _ h => absurd h List.not_mem_nil) (Nat.le_refl _)
  have R4 : Rp (3 + 4 * (3 + 0 * (5 * 1 + 1 + 33) + 2)) 5 (.tuple [hsD [], hsD [], hsD [], hsD []]) := Rp.tup (n := 3 + 0 * (5 * 1 + 1 + 33)) (k := 4) (fun e he => by
    simp only [List.mem_cons, List.not_mem_nil, or_false] at he
    rcases he with rfl | rfl | rfl | rfl <;> exact Rn) (Nat.le_refl _)
  refine And.intro R4.sh (And.intro R4.nd (And.intro (Nat.le_trans R4.dp (by decide)) (And.intro (Nat.le_trans R4.ln (by decide)) ?_)))
  have e2 : (PyData.tuple [hsD [], hsD [], hsD [], hsD []]).shown = Str.ofString "((), (), (), ())" := by decide
  show PyData.bool (decide ((PyData.tuple [hsD [], hsD [], hsD [], hsD []]).shown = Str.ofString "((), (), (), ())")) = PyData.bool true
  rw [decide_eq_true e2]

end KL
namespace KL
open PySem PySem.Spec PyProof.Rows L2 RZ StX SrtO Kw KM PV
theorem mkb_added_0_other_one {K : PySem.W.Frag} {a : Addr} {fd : FuncData} (F : Fun K "added" "added" s_added a fd) : KBinds K fd ["one", "other"] ["other", "one"] gkb_added_0_other_one gkb_added_0_other_oneV := by
  obtain ⟨oc, od, kV, doc, pm, an, cdv, ct, osl, rfl, lk, hcd⟩ := F.ex
  constructor
  · intro s us ws _ hl
    revert hl
    unfold gkb_added_0_other_one
    split
    · intro _
      exact .of_eq rfl
    · intro hl
      cases hl
  · intro vs us zs ws h1 h2
    unfold gkb_added_0_other_one gkb_added_0_other_oneV
    cases h1 with
    | nil =>
      cases h2 with
      | nil => exact .nil
      | cons k0 h2 =>
        cases h2 with
        | nil => exact .nil
        | cons k1 h2 =>
          cases h2 with
          | nil =>
            exact .cons k1 (.cons k0 (.nil))
          | cons _ _ => exact .nil
    | cons _ _ => exact .nil
theorem mkb_taken_0_other_one {K : PySem.W.Frag} {a : Addr} {fd : FuncData} (F : Fun K "taken" "taken" s_taken a fd) : KBinds K fd ["one", "other"] ["other", "one"] gkb_taken_0_other_one gkb_taken_0_other_oneV := by
  obtain ⟨oc, od, kV, doc, pm, an, cdv, ct, osl, rfl, lk, hcd⟩ := F.ex
  constructor
  · intro s us ws _ hl
    revert hl
    unfold gkb_taken_0_other_one
    split
    · intro _
      exact .of_eq rfl
    · intro hl
      cases hl
  · intro vs us zs ws h1 h2
    unfold gkb_taken_0_other_one gkb_taken_0_other_oneV
    cases h1 with
    | nil =>
      cases h2 with
      | nil => exact .nil
      | cons k0 h2 =>
        cases h2 with
        | nil => exact .nil
        | cons k1 h2 =>
          cases h2 with
          | nil =>
            exact .cons k1 (.cons k0 (.nil))
          | cons _ _ => exact .nil
    | cons _ _ => exact .nil
theorem mkb_times_0_number_heap {K : PySem.W.Frag} {a : Addr} {fd : FuncData} (F : Fun K "times" "times" s_times a fd) : KBinds K fd ["heap", "number"] ["number", "heap"] gkb_times_0_number_heap gkb_times_0_number_heapV := by
  obtain ⟨oc, od, kV, doc, pm, an, cdv, ct, osl, rfl, lk, hcd⟩ := F.ex
  constructor
  · intro s us ws _ hl
    revert hl
    unfold gkb_times_0_number_heap
    split
    · intro _
      exact .of_eq rfl
    · intro hl
      cases hl
  · intro vs us zs ws h1 h2
    unfold gkb_times_0_number_heap gkb_times_0_number_heapV
    cases h1 with
    | nil =>
      cases h2 with
      | nil => exact .nil
      | cons k0 h2 =>
        cases h2 with
        | nil => exact .nil
        | cons k1 h2 =>
          cases h2 with
          | nil =>
            exact .cons k1 (.cons k0 (.nil))
          | cons _ _ => exact .nil
    | cons _ _ => exact .nil
theorem all_mk {K : PySem.W.Frag} {h : Heap} {mg : Str → Option Value} (X : K.In h) (G : h.Ns mainGlobals mg)
    {f0 : Addr} {od0 an0 : Option Addr} {sl0 : Array (Option Value)} {oc0 kV0 dc0 pm0 cd0 ct0 : Value}
    (a0 : PySem.W.nsIn K mainGlobals "is_integer" = some (some (.ref f0))) (l0 : K.lookup f0 = some ⟨oc0, od0, .func (PySem.W.fnOf "is_integer" "is_integer" (defArgs s_is_integer) (defBody s_is_integer) (defScope s_is_integer) .none kV0 dc0 pm0 an0 cd0 ct0), sl0⟩)
    (c0 : PySem.W.codeIn K cd0 "is_integer" = true) (k0 : PySem.W.keepIn K (.ref f0) = true)
    {f1 : Addr} {od1 an1 : Option Addr} {sl1 : Array (Option Value)} {oc1 kV1 dc1 pm1 cd1 ct1 : Value}
    (a1 : PySem.W.nsIn K mainGlobals "primes_of" = some (some (.ref f1))) (l1 : K.lookup f1 = some ⟨oc1, od1, .func (PySem.W.fnOf "primes_of" "primes_of" (defArgs s_primes_of) (defBody s_primes_of) (defScope s_primes_of) .none kV1 dc1 pm1 an1 cd1 ct1), sl1⟩)
    (c1 : PySem.W.codeIn K cd1 "primes_of" = true) (k1 : PySem.W.keepIn K (.ref f1) = true)
    {f2 : Addr} {od2 an2 : Option Addr} {sl2 : Array (Option Value)} {oc2 kV2 dc2 pm2 cd2 ct2 : Value}
    (a2 : PySem.W.nsIn K mainGlobals "part_at" = some (some (.ref f2))) (l2 : K.lookup f2 = some ⟨oc2, od2, .func (PySem.W.fnOf "part_at" "part_at" (defArgs s_part_at) (defBody s_part_at) (defScope s_part_at) .none kV2 dc2 pm2 an2 cd2 ct2), sl2⟩)
    (c2 : PySem.W.codeIn K cd2 "part_at" = true) (k2 : PySem.W.keepIn K (.ref f2) = true)
    {f3 : Addr} {od3 an3 : Option Addr} {sl3 : Array (Option Value)} {oc3 kV3 dc3 pm3 cd3 ct3 : Value}
    (a3 : PySem.W.nsIn K mainGlobals "common_divisor" = some (some (.ref f3))) (l3 : K.lookup f3 = some ⟨oc3, od3, .func (PySem.W.fnOf "common_divisor" "common_divisor" (defArgs s_common_divisor) (defBody s_common_divisor) (defScope s_common_divisor) .none kV3 dc3 pm3 an3 cd3 ct3), sl3⟩)
    (c3 : PySem.W.codeIn K cd3 "common_divisor" = true) (k3 : PySem.W.keepIn K (.ref f3) = true)
    {f4 : Addr} {od4 an4 : Option Addr} {sl4 : Array (Option Value)} {oc4 kV4 dc4 pm4 cd4 ct4 : Value}
    (a4 : PySem.W.nsIn K mainGlobals "is_period" = some (some (.ref f4))) (l4 : K.lookup f4 = some ⟨oc4, od4, .func (PySem.W.fnOf "is_period" "is_period" (defArgs s_is_period) (defBody s_is_period) (defScope s_is_period) .none kV4 dc4 pm4 an4 cd4 ct4), sl4⟩)
    (c4 : PySem.W.codeIn K cd4 "is_period" = true) (k4 : PySem.W.keepIn K (.ref f4) = true)
    {f5 : Addr} {od5 an5 : Option Addr} {sl5 : Array (Option Value)} {oc5 kV5 dc5 pm5 cd5 ct5 : Value}
    (a5 : PySem.W.nsIn K mainGlobals "is_cell" = some (some (.ref f5))) (l5 : K.lookup f5 = some ⟨oc5, od5, .func (PySem.W.fnOf "is_cell" "is_cell" (defArgs s_is_cell) (defBody s_is_cell) (defScope s_is_cell) .none kV5 dc5 pm5 an5 cd5 ct5), sl5⟩)
    (c5 : PySem.W.codeIn K cd5 "is_cell" = true) (k5 : PySem.W.keepIn K (.ref f5) = true)
    {f6 : Addr} {od6 an6 : Option Addr} {sl6 : Array (Option Value)} {oc6 kV6 dc6 pm6 cd6 ct6 : Value}
    (a6 : PySem.W.nsIn K mainGlobals "is_stripe" = some (some (.ref f6))) (l6 : K.lookup f6 = some ⟨oc6, od6, .func (PySem.W.fnOf "is_stripe" "is_stripe" (defArgs s_is_stripe) (defBody s_is_stripe) (defScope s_is_stripe) .none kV6 dc6 pm6 an6 cd6 ct6), sl6⟩)
    (c6 : PySem.W.codeIn K cd6 "is_stripe" = true) (k6 : PySem.W.keepIn K (.ref f6) = true)
    {f7 : Addr} {od7 an7 : Option Addr} {sl7 : Array (Option Value)} {oc7 kV7 dc7 pm7 cd7 ct7 : Value}
    (a7 : PySem.W.nsIn K mainGlobals "is_heap" = some (some (.ref f7))) (l7 : K.lookup f7 = some ⟨oc7, od7, .func (PySem.W.fnOf "is_heap" "is_heap" (defArgs s_is_heap) (defBody s_is_heap) (defScope s_is_heap) .none kV7 dc7 pm7 an7 cd7 ct7), sl7⟩)
    (c7 : PySem.W.codeIn K cd7 "is_heap" = true) (k7 : PySem.W.keepIn K (.ref f7) = true)
    {f8 : Addr} {od8 an8 : Option Addr} {sl8 : Array (Option Value)} {oc8 kV8 dc8 pm8 cd8 ct8 : Value}
    (a8 : PySem.W.nsIn K mainGlobals "is_stripe_with_tint" = some (some (.ref f8))) (l8 : K.lookup f8 = some ⟨oc8, od8, .func (PySem.W.fnOf "is_stripe_with_tint" "is_stripe_with_tint" (defArgs s_is_stripe_with_tint) (defBody s_is_stripe_with_tint) (defScope s_is_stripe_with_tint) .none kV8 dc8 pm8 an8 cd8 ct8), sl8⟩)
    (c8 : PySem.W.codeIn K cd8 "is_stripe_with_tint" = true) (k8 : PySem.W.keepIn K (.ref f8) = true)
    {f9 : Addr} {od9 an9 : Option Addr} {sl9 : Array (Option Value)} {oc9 kV9 dc9 pm9 cd9 ct9 : Value}
    (a9 : PySem.W.nsIn K mainGlobals "added" = some (some (.ref f9))) (l9 : K.lookup f9 = some ⟨oc9, od9, .func (PySem.W.fnOf "added" "added" (defArgs s_added) (defBody s_added) (defScope s_added) .none kV9 dc9 pm9 an9 cd9 ct9), sl9⟩)
    (c9 : PySem.W.codeIn K cd9 "added" = true) (k9 : PySem.W.keepIn K (.ref f9) = true)
    {f10 : Addr} {od10 an10 : Option Addr} {sl10 : Array (Option Value)} {oc10 kV10 dc10 pm10 cd10 ct10 : Value}
    (a10 : PySem.W.nsIn K mainGlobals "taken" = some (some (.ref f10))) (l10 : K.lookup f10 = some ⟨oc10, od10, .func (PySem.W.fnOf "taken" "taken" (defArgs s_taken) (defBody s_taken) (defScope s_taken) .none kV10 dc10 pm10 an10 cd10 ct10), sl10⟩)
    (c10 : PySem.W.codeIn K cd10 "taken" = true) (k10 : PySem.W.keepIn K (.ref f10) = true)
    {f11 : Addr} {od11 an11 : Option Addr} {sl11 : Array (Option Value)} {oc11 kV11 dc11 pm11 cd11 ct11 : Value}
    (a11 : PySem.W.nsIn K mainGlobals "times" = some (some (.ref f11))) (l11 : K.lookup f11 = some ⟨oc11, od11, .func (PySem.W.fnOf "times" "times" (defArgs s_times) (defBody s_times) (defScope s_times) .none kV11 dc11 pm11 an11 cd11 ct11), sl11⟩)
    (c11 : PySem.W.codeIn K cd11 "times" = true) (k11 : PySem.W.keepIn K (.ref f11) = true)
    {f12 : Addr} {od12 an12 : Option Addr} {sl12 : Array (Option Value)} {oc12 kV12 dc12 pm12 cd12 ct12 : Value}
    (a12 : PySem.W.nsIn K mainGlobals "has_breadth" = some (some (.ref f12))) (l12 : K.lookup f12 = some ⟨oc12, od12, .func (PySem.W.fnOf "has_breadth" "has_breadth" (defArgs s_has_breadth) (defBody s_has_breadth) (defScope s_has_breadth) .none kV12 dc12 pm12 an12 cd12 ct12), sl12⟩)
    (c12 : PySem.W.codeIn K cd12 "has_breadth" = true) (k12 : PySem.W.keepIn K (.ref f12) = true)
    {f13 : Addr} {od13 an13 : Option Addr} {sl13 : Array (Option Value)} {oc13 kV13 dc13 pm13 cd13 ct13 : Value}
    (a13 : PySem.W.nsIn K mainGlobals "opposed" = some (some (.ref f13))) (l13 : K.lookup f13 = some ⟨oc13, od13, .func (PySem.W.fnOf "opposed" "opposed" (defArgs s_opposed) (defBody s_opposed) (defScope s_opposed) .none kV13 dc13 pm13 an13 cd13 ct13), sl13⟩)
    (c13 : PySem.W.codeIn K cd13 "opposed" = true) (k13 : PySem.W.keepIn K (.ref f13) = true)
    {f14 : Addr} {od14 an14 : Option Addr} {sl14 : Array (Option Value)} {oc14 kV14 dc14 pm14 cd14 ct14 : Value}
    (a14 : PySem.W.nsIn K mainGlobals "gathered" = some (some (.ref f14))) (l14 : K.lookup f14 = some ⟨oc14, od14, .func (PySem.W.fnOf "gathered" "gathered" (defArgs s_gathered) (defBody s_gathered) (defScope s_gathered) .none kV14 dc14 pm14 an14 cd14 ct14), sl14⟩)
    (c14 : PySem.W.codeIn K cd14 "gathered" = true) (k14 : PySem.W.keepIn K (.ref f14) = true)
    {f15 : Addr} {od15 an15 : Option Addr} {sl15 : Array (Option Value)} {oc15 kV15 dc15 pm15 cd15 ct15 : Value}
    (a15 : PySem.W.nsIn K mainGlobals "check_heap" = some (some (.ref f15))) (l15 : K.lookup f15 = some ⟨oc15, od15, .func (PySem.W.fnOf "check_heap" "check_heap" (defArgs s_check_heap) (defBody s_check_heap) (defScope s_check_heap) .none kV15 dc15 pm15 an15 cd15 ct15), sl15⟩)
    (c15 : PySem.W.codeIn K cd15 "check_heap" = true) (k15 : PySem.W.keepIn K (.ref f15) = true)
    {f16 : Addr} {od16 an16 : Option Addr} {sl16 : Array (Option Value)} {oc16 kV16 dc16 pm16 cd16 ct16 : Value}
    (a16 : PySem.W.nsIn K mainGlobals "check_heaps" = some (some (.ref f16))) (l16 : K.lookup f16 = some ⟨oc16, od16, .func (PySem.W.fnOf "check_heaps" "check_heaps" (defArgs s_check_heaps) (defBody s_check_heaps) (defScope s_check_heaps) .none kV16 dc16 pm16 an16 cd16 ct16), sl16⟩)
    (c16 : PySem.W.codeIn K cd16 "check_heaps" = true) (k16 : PySem.W.keepIn K (.ref f16) = true)
    {f17 : Addr} {od17 an17 : Option Addr} {sl17 : Array (Option Value)} {oc17 kV17 dc17 pm17 cd17 ct17 : Value}
    (a17 : PySem.W.nsIn K mainGlobals "breadth_of_heap" = some (some (.ref f17))) (l17 : K.lookup f17 = some ⟨oc17, od17, .func (PySem.W.fnOf "breadth_of_heap" "breadth_of_heap" (defArgs s_breadth_of_heap) (defBody s_breadth_of_heap) (defScope s_breadth_of_heap) .none kV17 dc17 pm17 an17 cd17 ct17), sl17⟩)
    (c17 : PySem.W.codeIn K cd17 "breadth_of_heap" = true) (k17 : PySem.W.keepIn K (.ref f17) = true)
    {f18 : Addr} {od18 an18 : Option Addr} {sl18 : Array (Option Value)} {oc18 kV18 dc18 pm18 cd18 ct18 : Value}
    (a18 : PySem.W.nsIn K mainGlobals "_law_deck" = some (some (.ref f18))) (l18 : K.lookup f18 = some ⟨oc18, od18, .func (PySem.W.fnOf "_law_deck" "_law_deck" (defArgs s__law_deck) (defBody s__law_deck) (defScope s__law_deck) .none kV18 dc18 pm18 an18 cd18 ct18), sl18⟩)
    (c18 : PySem.W.codeIn K cd18 "_law_deck" = true) (k18 : PySem.W.keepIn K (.ref f18) = true)
    {f19 : Addr} {od19 an19 : Option Addr} {sl19 : Array (Option Value)} {oc19 kV19 dc19 pm19 cd19 ct19 : Value}
    (a19 : PySem.W.nsIn K mainGlobals "_law_draw" = some (some (.ref f19))) (l19 : K.lookup f19 = some ⟨oc19, od19, .func (PySem.W.fnOf "_law_draw" "_law_draw" (defArgs s__law_draw) (defBody s__law_draw) (defScope s__law_draw) .none kV19 dc19 pm19 an19 cd19 ct19), sl19⟩)
    (c19 : PySem.W.codeIn K cd19 "_law_draw" = true) (k19 : PySem.W.keepIn K (.ref f19) = true)
    {f20 : Addr} {od20 an20 : Option Addr} {sl20 : Array (Option Value)} {oc20 kV20 dc20 pm20 cd20 ct20 : Value}
    (a20 : PySem.W.nsIn K mainGlobals "_law_pick" = some (some (.ref f20))) (l20 : K.lookup f20 = some ⟨oc20, od20, .func (PySem.W.fnOf "_law_pick" "_law_pick" (defArgs s__law_pick) (defBody s__law_pick) (defScope s__law_pick) .none kV20 dc20 pm20 an20 cd20 ct20), sl20⟩)
    (c20 : PySem.W.codeIn K cd20 "_law_pick" = true) (k20 : PySem.W.keepIn K (.ref f20) = true)
    {f21 : Addr} {od21 an21 : Option Addr} {sl21 : Array (Option Value)} {oc21 kV21 dc21 pm21 cd21 ct21 : Value}
    (a21 : PySem.W.nsIn K mainGlobals "_law_great" = some (some (.ref f21))) (l21 : K.lookup f21 = some ⟨oc21, od21, .func (PySem.W.fnOf "_law_great" "_law_great" (defArgs s__law_great) (defBody s__law_great) (defScope s__law_great) .none kV21 dc21 pm21 an21 cd21 ct21), sl21⟩)
    (c21 : PySem.W.codeIn K cd21 "_law_great" = true) (k21 : PySem.W.keepIn K (.ref f21) = true)
    {f22 : Addr} {od22 an22 : Option Addr} {sl22 : Array (Option Value)} {oc22 kV22 dc22 pm22 cd22 ct22 : Value}
    (a22 : PySem.W.nsIn K mainGlobals "_law_signed" = some (some (.ref f22))) (l22 : K.lookup f22 = some ⟨oc22, od22, .func (PySem.W.fnOf "_law_signed" "_law_signed" (defArgs s__law_signed) (defBody s__law_signed) (defScope s__law_signed) .none kV22 dc22 pm22 an22 cd22 ct22), sl22⟩)
    (c22 : PySem.W.codeIn K cd22 "_law_signed" = true) (k22 : PySem.W.keepIn K (.ref f22) = true)
    {f23 : Addr} {od23 an23 : Option Addr} {sl23 : Array (Option Value)} {oc23 kV23 dc23 pm23 cd23 ct23 : Value}
    (a23 : PySem.W.nsIn K mainGlobals "_law_powers" = some (some (.ref f23))) (l23 : K.lookup f23 = some ⟨oc23, od23, .func (PySem.W.fnOf "_law_powers" "_law_powers" (defArgs s__law_powers) (defBody s__law_powers) (defScope s__law_powers) .none kV23 dc23 pm23 an23 cd23 ct23), sl23⟩)
    (c23 : PySem.W.codeIn K cd23 "_law_powers" = true) (k23 : PySem.W.keepIn K (.ref f23) = true)
    {f24 : Addr} {od24 an24 : Option Addr} {sl24 : Array (Option Value)} {oc24 kV24 dc24 pm24 cd24 ct24 : Value}
    (a24 : PySem.W.nsIn K mainGlobals "_law_product" = some (some (.ref f24))) (l24 : K.lookup f24 = some ⟨oc24, od24, .func (PySem.W.fnOf "_law_product" "_law_product" (defArgs s__law_product) (defBody s__law_product) (defScope s__law_product) .none kV24 dc24 pm24 an24 cd24 ct24), sl24⟩)
    (c24 : PySem.W.codeIn K cd24 "_law_product" = true) (k24 : PySem.W.keepIn K (.ref f24) = true)
    {f25 : Addr} {od25 an25 : Option Addr} {sl25 : Array (Option Value)} {oc25 kV25 dc25 pm25 cd25 ct25 : Value}
    (a25 : PySem.W.nsIn K mainGlobals "_law_numbers" = some (some (.ref f25))) (l25 : K.lookup f25 = some ⟨oc25, od25, .func (PySem.W.fnOf "_law_numbers" "_law_numbers" (defArgs s__law_numbers) (defBody s__law_numbers) (defScope s__law_numbers) .none kV25 dc25 pm25 an25 cd25 ct25), sl25⟩)
    (c25 : PySem.W.codeIn K cd25 "_law_numbers" = true) (k25 : PySem.W.keepIn K (.ref f25) = true)
    {f26 : Addr} {od26 an26 : Option Addr} {sl26 : Array (Option Value)} {oc26 kV26 dc26 pm26 cd26 ct26 : Value}
    (a26 : PySem.W.nsIn K mainGlobals "_law_unit" = some (some (.ref f26))) (l26 : K.lookup f26 = some ⟨oc26, od26, .func (PySem.W.fnOf "_law_unit" "_law_unit" (defArgs s__law_unit) (defBody s__law_unit) (defScope s__law_unit) .none kV26 dc26 pm26 an26 cd26 ct26), sl26⟩)
    (c26 : PySem.W.codeIn K cd26 "_law_unit" = true) (k26 : PySem.W.keepIn K (.ref f26) = true)
    {f27 : Addr} {od27 an27 : Option Addr} {sl27 : Array (Option Value)} {oc27 kV27 dc27 pm27 cd27 ct27 : Value}
    (a27 : PySem.W.nsIn K mainGlobals "_law_stripe" = some (some (.ref f27))) (l27 : K.lookup f27 = some ⟨oc27, od27, .func (PySem.W.fnOf "_law_stripe" "_law_stripe" (defArgs s__law_stripe) (defBody s__law_stripe) (defScope s__law_stripe) .none kV27 dc27 pm27 an27 cd27 ct27), sl27⟩)
    (c27 : PySem.W.codeIn K cd27 "_law_stripe" = true) (k27 : PySem.W.keepIn K (.ref f27) = true)
    {f28 : Addr} {od28 an28 : Option Addr} {sl28 : Array (Option Value)} {oc28 kV28 dc28 pm28 cd28 ct28 : Value}
    (a28 : PySem.W.nsIn K mainGlobals "_law_drawn" = some (some (.ref f28))) (l28 : K.lookup f28 = some ⟨oc28, od28, .func (PySem.W.fnOf "_law_drawn" "_law_drawn" (defArgs s__law_drawn) (defBody s__law_drawn) (defScope s__law_drawn) .none kV28 dc28 pm28 an28 cd28 ct28), sl28⟩)
    (c28 : PySem.W.codeIn K cd28 "_law_drawn" = true) (k28 : PySem.W.keepIn K (.ref f28) = true)
    {f29 : Addr} {od29 an29 : Option Addr} {sl29 : Array (Option Value)} {oc29 kV29 dc29 pm29 cd29 ct29 : Value}
    (a29 : PySem.W.nsIn K mainGlobals "_law_heap" = some (some (.ref f29))) (l29 : K.lookup f29 = some ⟨oc29, od29, .func (PySem.W.fnOf "_law_heap" "_law_heap" (defArgs s__law_heap) (defBody s__law_heap) (defScope s__law_heap) .none kV29 dc29 pm29 an29 cd29 ct29), sl29⟩)
    (c29 : PySem.W.codeIn K cd29 "_law_heap" = true) (k29 : PySem.W.keepIn K (.ref f29) = true)
    {f30 : Addr} {od30 an30 : Option Addr} {sl30 : Array (Option Value)} {oc30 kV30 dc30 pm30 cd30 ct30 : Value}
    (a30 : PySem.W.nsIn K mainGlobals "_law_summed" = some (some (.ref f30))) (l30 : K.lookup f30 = some ⟨oc30, od30, .func (PySem.W.fnOf "_law_summed" "_law_summed" (defArgs s__law_summed) (defBody s__law_summed) (defScope s__law_summed) .none kV30 dc30 pm30 an30 cd30 ct30), sl30⟩)
    (c30 : PySem.W.codeIn K cd30 "_law_summed" = true) (k30 : PySem.W.keepIn K (.ref f30) = true)
    {f31 : Addr} {od31 an31 : Option Addr} {sl31 : Array (Option Value)} {oc31 kV31 dc31 pm31 cd31 ct31 : Value}
    (a31 : PySem.W.nsIn K mainGlobals "_law_are_due" = some (some (.ref f31))) (l31 : K.lookup f31 = some ⟨oc31, od31, .func (PySem.W.fnOf "_law_are_due" "_law_are_due" (defArgs s__law_are_due) (defBody s__law_are_due) (defScope s__law_are_due) .none kV31 dc31 pm31 an31 cd31 ct31), sl31⟩)
    (c31 : PySem.W.codeIn K cd31 "_law_are_due" = true) (k31 : PySem.W.keepIn K (.ref f31) = true)
    {f32 : Addr} {od32 an32 : Option Addr} {sl32 : Array (Option Value)} {oc32 kV32 dc32 pm32 cd32 ct32 : Value}
    (a32 : PySem.W.nsIn K mainGlobals "_law_are_multiples" = some (some (.ref f32))) (l32 : K.lookup f32 = some ⟨oc32, od32, .func (PySem.W.fnOf "_law_are_multiples" "_law_are_multiples" (defArgs s__law_are_multiples) (defBody s__law_are_multiples) (defScope s__law_are_multiples) .none kV32 dc32 pm32 an32 cd32 ct32), sl32⟩)
    (c32 : PySem.W.codeIn K cd32 "_law_are_multiples" = true) (k32 : PySem.W.keepIn K (.ref f32) = true)
    {f33 : Addr} {od33 an33 : Option Addr} {sl33 : Array (Option Value)} {oc33 kV33 dc33 pm33 cd33 ct33 : Value}
    (a33 : PySem.W.nsIn K mainGlobals "law" = some (some (.ref f33))) (l33 : K.lookup f33 = some ⟨oc33, od33, .func (PySem.W.fnOf "law" "law" (defArgs s_law) (defBody s_law) (defScope s_law) .none kV33 dc33 pm33 an33 cd33 ct33), sl33⟩)
    (c33 : PySem.W.codeIn K cd33 "law" = true) (k33 : PySem.W.keepIn K (.ref f33) = true)
    (z0 : PySem.W.nsIn K mainGlobals "all" = some none)
    (z1 : PySem.W.nsIn K mainGlobals "bool" = some none)
    (z2 : PySem.W.nsIn K mainGlobals "int" = some none)
    (z3 : PySem.W.nsIn K mainGlobals "isinstance" = some none)
    (z4 : PySem.W.nsIn K mainGlobals "len" = some none)
    (z5 : PySem.W.nsIn K mainGlobals "list" = some none)
    (z6 : PySem.W.nsIn K mainGlobals "max" = some none)
    (z7 : PySem.W.nsIn K mainGlobals "range" = some none)
    (z8 : PySem.W.nsIn K mainGlobals "repr" = some none)
    (z9 : PySem.W.nsIn K mainGlobals "sorted" = some none)
    (z10 : PySem.W.nsIn K mainGlobals "tuple" = some none)
    (z11 : PySem.W.nsIn K mainGlobals "zip" = some none)
    (b0 : PySem.W.nsIn K mainGlobals "gcd" = some (some (.builtin "math.gcd")))
    (v0 : PySem.W.nsIn K mainGlobals "PRIMES" = some (some (.ref (He.ga K "PRIMES")))) (w0 : He.tupB K "PRIMES" (([2, 3, 5, 7, 11, 13, 17, 19, 23, 29] : List Int).map He.Dv.int) = true)
    {t1 : Tok} (v1 : PySem.W.nsIn K mainGlobals "MOST_BREADTH" = some (some (.int 3 t1)))
    {t2 : Tok} (v2 : PySem.W.nsIn K mainGlobals "MOST_PRIMES_MULTIPLIED" = some (some (.int 1000 t2)))
    : Nonempty (Txt K mg) := by
  have F0 := fun_mk (st := s_is_integer) l0 c0 k0
  have F1 := fun_mk (st := s_primes_of) l1 c1 k1
  have F2 := fun_mk (st := s_part_at) l2 c2 k2
  have F3 := fun_mk (st := s_common_divisor) l3 c3 k3
  have F4 := fun_mk (st := s_is_period) l4 c4 k4
  have F5 := fun_mk (st := s_is_cell) l5 c5 k5
  have F6 := fun_mk (st := s_is_stripe) l6 c6 k6
  have F7 := fun_mk (st := s_is_heap) l7 c7 k7
  have F8 := fun_mk (st := s_is_stripe_with_tint) l8 c8 k8
  have F9 := fun_mk (st := s_added) l9 c9 k9
  have F10 := fun_mk (st := s_taken) l10 c10 k10
  have F11 := fun_mk (st := s_times) l11 c11 k11
  have F12 := fun_mk (st := s_has_breadth) l12 c12 k12
  have F13 := fun_mk (st := s_opposed) l13 c13 k13
  have F14 := fun_mk (st := s_gathered) l14 c14 k14
  have F15 := fun_mk (st := s_check_heap) l15 c15 k15
  have F16 := fun_mk (st := s_check_heaps) l16 c16 k16
  have F17 := fun_mk (st := s_breadth_of_heap) l17 c17 k17
  have F18 := fun_mk (st := s__law_deck) l18 c18 k18
  have F19 := fun_mk (st := s__law_draw) l19 c19 k19
  have F20 := fun_mk (st := s__law_pick) l20 c20 k20
  have F21 := fun_mk (st := s__law_great) l21 c21 k21
  have F22 := fun_mk (st := s__law_signed) l22 c22 k22
  have F23 := fun_mk (st := s__law_powers) l23 c23 k23
  have F24 := fun_mk (st := s__law_product) l24 c24 k24
  have F25 := fun_mk (st := s__law_numbers) l25 c25 k25
  have F26 := fun_mk (st := s__law_unit) l26 c26 k26
  have F27 := fun_mk (st := s__law_stripe) l27 c27 k27
  have F28 := fun_mk (st := s__law_drawn) l28 c28 k28
  have F29 := fun_mk (st := s__law_heap) l29 c29 k29
  have F30 := fun_mk (st := s__law_summed) l30 c30 k30
  have F31 := fun_mk (st := s__law_are_due) l31 c31 k31
  have F32 := fun_mk (st := s__law_are_multiples) l32 c32 k32
  have F33 := fun_mk (st := s_law) l33 c33 k33
  exact ⟨{
    a_is_integer := f0
    d_is_integer := _
    F_is_integer := F0
    m_is_integer := PySem.W.mg_of X G a0
    b_is_integer := F0.binds (ps := ["thing"]) fun _ _ _ _ _ _ us hl => match us, hl with | [_], _ => rfl
    a_primes_of := f1
    d_primes_of := _
    F_primes_of := F1
    m_primes_of := PySem.W.mg_of X G a1
    b_primes_of := F1.binds (ps := ["number"]) fun _ _ _ _ _ _ us hl => match us, hl with | [_], _ => rfl
    a_part_at := f2
    d_part_at := _
    F_part_at := F2
    m_part_at := PySem.W.mg_of X G a2
    b_part_at := F2.binds (ps := ["number", "p"]) fun _ _ _ _ _ _ us hl => match us, hl with | [_, _], _ => rfl
    a_common_divisor := f3
    d_common_divisor := _
    F_common_divisor := F3
    m_common_divisor := PySem.W.mg_of X G a3
    b_common_divisor := F3.binds (ps := ["number", "others"]) fun _ _ _ _ _ _ us hl => match us, hl with | [_, _], _ => rfl
    a_is_period := f4
    d_is_period := _
    F_is_period := F4
    m_is_period := PySem.W.mg_of X G a4
    b_is_period := F4.binds (ps := ["thing"]) fun _ _ _ _ _ _ us hl => match us, hl with | [_], _ => rfl
    a_is_cell := f5
    d_is_cell := _
    F_is_cell := F5
    m_is_cell := PySem.W.mg_of X G a5
    b_is_cell := F5.binds (ps := ["thing"]) fun _ _ _ _ _ _ us hl => match us, hl with | [_], _ => rfl
    a_is_stripe := f6
    d_is_stripe := _
    F_is_stripe := F6
    m_is_stripe := PySem.W.mg_of X G a6
    b_is_stripe := F6.binds (ps := ["thing"]) fun _ _ _ _ _ _ us hl => match us, hl with | [_], _ => rfl
    a_is_heap := f7
    d_is_heap := _
    F_is_heap := F7
    m_is_heap := PySem.W.mg_of X G a7
    b_is_heap := F7.binds (ps := ["thing"]) fun _ _ _ _ _ _ us hl => match us, hl with | [_], _ => rfl
    a_is_stripe_with_tint := f8
    d_is_stripe_with_tint := _
    F_is_stripe_with_tint := F8
    m_is_stripe_with_tint := PySem.W.mg_of X G a8
    b_is_stripe_with_tint := F8.binds (ps := ["thing"]) fun _ _ _ _ _ _ us hl => match us, hl with | [_], _ => rfl
    a_added := f9
    d_added := _
    F_added := F9
    m_added := PySem.W.mg_of X G a9
    b_added := F9.binds (ps := ["one", "other"]) fun _ _ _ _ _ _ us hl => match us, hl with | [_, _], _ => rfl
    a_taken := f10
    d_taken := _
    F_taken := F10
    m_taken := PySem.W.mg_of X G a10
    b_taken := F10.binds (ps := ["one", "other"]) fun _ _ _ _ _ _ us hl => match us, hl with | [_, _], _ => rfl
    a_times := f11
    d_times := _
    F_times := F11
    m_times := PySem.W.mg_of X G a11
    b_times := F11.binds (ps := ["heap", "number"]) fun _ _ _ _ _ _ us hl => match us, hl with | [_, _], _ => rfl
    a_has_breadth := f12
    d_has_breadth := _
    F_has_breadth := F12
    m_has_breadth := PySem.W.mg_of X G a12
    b_has_breadth := F12.binds (ps := ["heap", "breadth"]) fun _ _ _ _ _ _ us hl => match us, hl with | [_, _], _ => rfl
    a_opposed := f13
    d_opposed := _
    F_opposed := F13
    m_opposed := PySem.W.mg_of X G a13
    b_opposed := F13.binds (ps := ["pairs"]) fun _ _ _ _ _ _ us hl => match us, hl with | [_], _ => rfl
    a_gathered := f14
    d_gathered := _
    F_gathered := F14
    m_gathered := PySem.W.mg_of X G a14
    b_gathered := F14.binds (ps := ["pairs"]) fun _ _ _ _ _ _ us hl => match us, hl with | [_], _ => rfl
    a_check_heap := f15
    d_check_heap := _
    F_check_heap := F15
    m_check_heap := PySem.W.mg_of X G a15
    b_check_heap := F15.binds (ps := ["thing"]) fun _ _ _ _ _ _ us hl => match us, hl with | [_], _ => rfl
    a_check_heaps := f16
    d_check_heaps := _
    F_check_heaps := F16
    m_check_heaps := PySem.W.mg_of X G a16
    b_check_heaps := F16.binds (ps := ["one", "other"]) fun _ _ _ _ _ _ us hl => match us, hl with | [_, _], _ => rfl
    a_breadth_of_heap := f17
    d_breadth_of_heap := _
    F_breadth_of_heap := F17
    m_breadth_of_heap := PySem.W.mg_of X G a17
    b_breadth_of_heap := F17.binds (ps := ["heap"]) fun _ _ _ _ _ _ us hl => match us, hl with | [_], _ => rfl
    a__law_deck := f18
    d__law_deck := _
    F__law_deck := F18
    m__law_deck := PySem.W.mg_of X G a18
    b__law_deck := F18.binds (ps := ["_law_script"]) fun _ _ _ _ _ _ us hl => match us, hl with | [_], _ => rfl
    a__law_draw := f19
    d__law_draw := _
    F__law_draw := F19
    m__law_draw := PySem.W.mg_of X G a19
    b__law_draw := F19.binds (ps := ["_law_deck_here", "_law_many"]) fun _ _ _ _ _ _ us hl => match us, hl with | [_, _], _ => rfl
    a__law_pick := f20
    d__law_pick := _
    F__law_pick := F20
    m__law_pick := PySem.W.mg_of X G a20
    b__law_pick := F20.binds (ps := ["_law_deck_here", "_law_some"]) fun _ _ _ _ _ _ us hl => match us, hl with | [_, _], _ => rfl
    a__law_great := f21
    d__law_great := _
    F__law_great := F21
    m__law_great := PySem.W.mg_of X G a21
    b__law_great := F21.binds (ps := ["_law_deck_here", "_law_top"]) fun _ _ _ _ _ _ us hl => match us, hl with | [_, _], _ => rfl
    a__law_signed := f22
    d__law_signed := _
    F__law_signed := F22
    m__law_signed := PySem.W.mg_of X G a22
    b__law_signed := F22.binds (ps := ["_law_deck_here", "_law_top"]) fun _ _ _ _ _ _ us hl => match us, hl with | [_, _], _ => rfl
    a__law_powers := f23
    d__law_powers := _
    F__law_powers := F23
    m__law_powers := PySem.W.mg_of X G a23
    b__law_powers := F23.binds (ps := ["_law_deck_here", "_law_top", "_law_most"]) fun _ _ _ _ _ _ us hl => match us, hl with | [_, _, _], _ => rfl
    a__law_product := f24
    d__law_product := _
    F__law_product := F24
    m__law_product := PySem.W.mg_of X G a24
    b__law_product := F24.binds (ps := ["_law_some"]) fun _ _ _ _ _ _ us hl => match us, hl with | [_], _ => rfl
    a__law_numbers := f25
    d__law_numbers := _
    F__law_numbers := F25
    m__law_numbers := PySem.W.mg_of X G a25
    b__law_numbers := F25.binds (ps := ["_law_deck_here", "_law_powers_here", "_law_m", "_law_d"]) fun _ _ _ _ _ _ us hl => match us, hl with | [_, _, _, _], _ => rfl
    a__law_unit := f26
    d__law_unit := _
    F__law_unit := F26
    m__law_unit := PySem.W.mg_of X G a26
    b__law_unit := F26.binds (ps := ["_law_deck_here", "_law_powers_here", "_law_m"]) fun _ _ _ _ _ _ us hl => match us, hl with | [_, _, _], _ => rfl
    a__law_stripe := f27
    d__law_stripe := _
    F__law_stripe := F27
    m__law_stripe := PySem.W.mg_of X G a27
    b__law_stripe := F27.binds (ps := ["_law_deck_here", "_law_d"]) fun _ _ _ _ _ _ us hl => match us, hl with | [_, _], _ => rfl
    a__law_drawn := f28
    d__law_drawn := _
    F__law_drawn := F28
    m__law_drawn := PySem.W.mg_of X G a28
    b__law_drawn := F28.binds (ps := ["_law_deck_here", "_law_d"]) fun _ _ _ _ _ _ us hl => match us, hl with | [_, _], _ => rfl
    a__law_heap := f29
    d__law_heap := _
    F__law_heap := F29
    m__law_heap := PySem.W.mg_of X G a29
    b__law_heap := F29.binds (ps := ["_law_tints"]) fun _ _ _ _ _ _ us hl => match us, hl with | [_], _ => rfl
    a__law_summed := f30
    d__law_summed := _
    F__law_summed := F30
    m__law_summed := PySem.W.mg_of X G a30
    b__law_summed := F30.binds (ps := ["_law_one", "_law_other", "_law_sign"]) fun _ _ _ _ _ _ us hl => match us, hl with | [_, _, _], _ => rfl
    a__law_are_due := f31
    d__law_are_due := _
    F__law_are_due := F31
    m__law_are_due := PySem.W.mg_of X G a31
    b__law_are_due := F31.binds (ps := ["_law_one", "_law_other"]) fun _ _ _ _ _ _ us hl => match us, hl with | [_, _], _ => rfl
    a__law_are_multiples := f32
    d__law_are_multiples := _
    F__law_are_multiples := F32
    m__law_are_multiples := PySem.W.mg_of X G a32
    b__law_are_multiples := F32.binds (ps := ["_law_deck_here", "_law_one"]) fun _ _ _ _ _ _ us hl => match us, hl with | [_, _], _ => rfl
    a_law := f33
    d_law := _
    F_law := F33
    m_law := PySem.W.mg_of X G a33
    b_law := F33.binds (ps := ["_law_script"]) fun _ _ _ _ _ _ us hl => match us, hl with | [_], _ => rfl
    n_all := PySem.W.mg_none_of X G z0
    n_bool := PySem.W.mg_none_of X G z1
    n_int := PySem.W.mg_none_of X G z2
    n_isinstance := PySem.W.mg_none_of X G z3
    n_len := PySem.W.mg_none_of X G z4
    n_list := PySem.W.mg_none_of X G z5
    n_max := PySem.W.mg_none_of X G z6
    n_range := PySem.W.mg_none_of X G z7
    n_repr := PySem.W.mg_none_of X G z8
    n_sorted := PySem.W.mg_none_of X G z9
    n_tuple := PySem.W.mg_none_of X G z10
    n_zip := PySem.W.mg_none_of X G z11
    kb_added_0_other_one := mkb_added_0_other_one F9
    kb_taken_0_other_one := mkb_taken_0_other_one F10
    kb_times_0_number_heap := mkb_times_0_number_heap F11
    m_gcd := PySem.W.mg_of X G b0
    a_PRIMES := He.ga K "PRIMES"
    m_PRIMES := PySem.W.mg_of X G v0
    t_PRIMES := fun H => He.tupB_ok w0 H
    m_MOST_BREADTH := ⟨_, PySem.W.mg_of X G v1⟩
    m_MOST_PRIMES_MULTIPLIED := ⟨_, PySem.W.mg_of X G v2⟩
  }⟩
theorem law_at {K : PySem.W.Frag} {mg : Str → Option Value} {fa : Addr} (T : Txt K mg) (hfa : mg "law" = some (.ref fa)) : fa = T.a_law := by
  have e := hfa.symm.trans T.m_law
  injection e with e
  injection e
theorem law_binds {K : PySem.W.Frag} {mg : Str → Option Value} (T : Txt K mg) (s : Shared) (u : Value) : BindsTo s T.d_law ⟨[u], []⟩ [("_law_script", u)] := by
  obtain ⟨oc, od, kV, doc, pm, an, cdv, ct, osl, e, lk, hcd⟩ := T.F_law.ex
  rw [e]
  exact .of_eq rfl
theorem all_end {l : PySem.W.OpenLaw} {w : World} {K : PySem.W.Frag} {h : Heap} {mg : Str → Option Value} {fa : Addr} (X : K.In h) (G : h.Ns mainGlobals mg) (hfa : mg "law" = some (.ref fa))
    {f0 : Addr} {od0 an0 : Option Addr} {sl0 : Array (Option Value)} {oc0 kV0 dc0 pm0 cd0 ct0 : Value}
    (a0 : PySem.W.nsIn K mainGlobals "is_integer" = some (some (.ref f0))) (l0 : K.lookup f0 = some ⟨oc0, od0, .func (PySem.W.fnOf "is_integer" "is_integer" (defArgs s_is_integer) (defBody s_is_integer) (defScope s_is_integer) .none kV0 dc0 pm0 an0 cd0 ct0), sl0⟩)
    (c0 : PySem.W.codeIn K cd0 "is_integer" = true) (k0 : PySem.W.keepIn K (.ref f0) = true)
    {f1 : Addr} {od1 an1 : Option Addr} {sl1 : Array (Option Value)} {oc1 kV1 dc1 pm1 cd1 ct1 : Value}
    (a1 : PySem.W.nsIn K mainGlobals "primes_of" = some (some (.ref f1))) (l1 : K.lookup f1 = some ⟨oc1, od1, .func (PySem.W.fnOf "primes_of" "primes_of" (defArgs s_primes_of) (defBody s_primes_of) (defScope s_primes_of) .none kV1 dc1 pm1 an1 cd1 ct1), sl1⟩)
    (c1 : PySem.W.codeIn K cd1 "primes_of" = true) (k1 : PySem.W.keepIn K (.ref f1) = true)
    {f2 : Addr} {od2 an2 : Option Addr} {sl2 : Array (Option Value)} {oc2 kV2 dc2 pm2 cd2 ct2 : Value}
    (a2 : PySem.W.nsIn K mainGlobals "part_at" = some (some (.ref f2))) (l2 : K.lookup f2 = some ⟨oc2, od2, .func (PySem.W.fnOf "part_at" "part_at" (defArgs s_part_at) (defBody s_part_at) (defScope s_part_at) .none kV2 dc2 pm2 an2 cd2 ct2), sl2⟩)
    (c2 : PySem.W.codeIn K cd2 "part_at" = true) (k2 : PySem.W.keepIn K (.ref f2) = true)
    {f3 : Addr} {od3 an3 : Option Addr} {sl3 : Array (Option Value)} {oc3 kV3 dc3 pm3 cd3 ct3 : Value}
    (a3 : PySem.W.nsIn K mainGlobals "common_divisor" = some (some (.ref f3))) (l3 : K.lookup f3 = some ⟨oc3, od3, .func (PySem.W.fnOf "common_divisor" "common_divisor" (defArgs s_common_divisor) (defBody s_common_divisor) (defScope s_common_divisor) .none kV3 dc3 pm3 an3 cd3 ct3), sl3⟩)
    (c3 : PySem.W.codeIn K cd3 "common_divisor" = true) (k3 : PySem.W.keepIn K (.ref f3) = true)
    {f4 : Addr} {od4 an4 : Option Addr} {sl4 : Array (Option Value)} {oc4 kV4 dc4 pm4 cd4 ct4 : Value}
    (a4 : PySem.W.nsIn K mainGlobals "is_period" = some (some (.ref f4))) (l4 : K.lookup f4 = some ⟨oc4, od4, .func (PySem.W.fnOf "is_period" "is_period" (defArgs s_is_period) (defBody s_is_period) (defScope s_is_period) .none kV4 dc4 pm4 an4 cd4 ct4), sl4⟩)
    (c4 : PySem.W.codeIn K cd4 "is_period" = true) (k4 : PySem.W.keepIn K (.ref f4) = true)
    {f5 : Addr} {od5 an5 : Option Addr} {sl5 : Array (Option Value)} {oc5 kV5 dc5 pm5 cd5 ct5 : Value}
    (a5 : PySem.W.nsIn K mainGlobals "is_cell" = some (some (.ref f5))) (l5 : K.lookup f5 = some ⟨oc5, od5, .func (PySem.W.fnOf "is_cell" "is_cell" (defArgs s_is_cell) (defBody s_is_cell) (defScope s_is_cell) .none kV5 dc5 pm5 an5 cd5 ct5), sl5⟩)
    (c5 : PySem.W.codeIn K cd5 "is_cell" = true) (k5 : PySem.W.keepIn K (.ref f5) = true)
    {f6 : Addr} {od6 an6 : Option Addr} {sl6 : Array (Option Value)} {oc6 kV6 dc6 pm6 cd6 ct6 : Value}
    (a6 : PySem.W.nsIn K mainGlobals "is_stripe" = some (some (.ref f6))) (l6 : K.lookup f6 = some ⟨oc6, od6, .func (PySem.W.fnOf "is_stripe" "is_stripe" (defArgs s_is_stripe) (defBody s_is_stripe) (defScope s_is_stripe) .none kV6 dc6 pm6 an6 cd6 ct6), sl6⟩)
    (c6 : PySem.W.codeIn K cd6 "is_stripe" = true) (k6 : PySem.W.keepIn K (.ref f6) = true)
    {f7 : Addr} {od7 an7 : Option Addr} {sl7 : Array (Option Value)} {oc7 kV7 dc7 pm7 cd7 ct7 : Value}
    (a7 : PySem.W.nsIn K mainGlobals "is_heap" = some (some (.ref f7))) (l7 : K.lookup f7 = some ⟨oc7, od7, .func (PySem.W.fnOf "is_heap" "is_heap" (defArgs s_is_heap) (defBody s_is_heap) (defScope s_is_heap) .none kV7 dc7 pm7 an7 cd7 ct7), sl7⟩)
    (c7 : PySem.W.codeIn K cd7 "is_heap" = true) (k7 : PySem.W.keepIn K (.ref f7) = true)
    {f8 : Addr} {od8 an8 : Option Addr} {sl8 : Array (Option Value)} {oc8 kV8 dc8 pm8 cd8 ct8 : Value}
    (a8 : PySem.W.nsIn K mainGlobals "is_stripe_with_tint" = some (some (.ref f8))) (l8 : K.lookup f8 = some ⟨oc8, od8, .func (PySem.W.fnOf "is_stripe_with_tint" "is_stripe_with_tint" (defArgs s_is_stripe_with_tint) (defBody s_is_stripe_with_tint) (defScope s_is_stripe_with_tint) .none kV8 dc8 pm8 an8 cd8 ct8), sl8⟩)
    (c8 : PySem.W.codeIn K cd8 "is_stripe_with_tint" = true) (k8 : PySem.W.keepIn K (.ref f8) = true)
    {f9 : Addr} {od9 an9 : Option Addr} {sl9 : Array (Option Value)} {oc9 kV9 dc9 pm9 cd9 ct9 : Value}
    (a9 : PySem.W.nsIn K mainGlobals "added" = some (some (.ref f9))) (l9 : K.lookup f9 = some ⟨oc9, od9, .func (PySem.W.fnOf "added" "added" (defArgs s_added) (defBody s_added) (defScope s_added) .none kV9 dc9 pm9 an9 cd9 ct9), sl9⟩)
    (c9 : PySem.W.codeIn K cd9 "added" = true) (k9 : PySem.W.keepIn K (.ref f9) = true)
    {f10 : Addr} {od10 an10 : Option Addr} {sl10 : Array (Option Value)} {oc10 kV10 dc10 pm10 cd10 ct10 : Value}
    (a10 : PySem.W.nsIn K mainGlobals "taken" = some (some (.ref f10))) (l10 : K.lookup f10 = some ⟨oc10, od10, .func (PySem.W.fnOf "taken" "taken" (defArgs s_taken) (defBody s_taken) (defScope s_taken) .none kV10 dc10 pm10 an10 cd10 ct10), sl10⟩)
    (c10 : PySem.W.codeIn K cd10 "taken" = true) (k10 : PySem.W.keepIn K (.ref f10) = true)
    {f11 : Addr} {od11 an11 : Option Addr} {sl11 : Array (Option Value)} {oc11 kV11 dc11 pm11 cd11 ct11 : Value}
    (a11 : PySem.W.nsIn K mainGlobals "times" = some (some (.ref f11))) (l11 : K.lookup f11 = some ⟨oc11, od11, .func (PySem.W.fnOf "times" "times" (defArgs s_times) (defBody s_times) (defScope s_times) .none kV11 dc11 pm11 an11 cd11 ct11), sl11⟩)
    (c11 : PySem.W.codeIn K cd11 "times" = true) (k11 : PySem.W.keepIn K (.ref f11) = true)
    {f12 : Addr} {od12 an12 : Option Addr} {sl12 : Array (Option Value)} {oc12 kV12 dc12 pm12 cd12 ct12 : Value}
    (a12 : PySem.W.nsIn K mainGlobals "has_breadth" = some (some (.ref f12))) (l12 : K.lookup f12 = some ⟨oc12, od12, .func (PySem.W.fnOf "has_breadth" "has_breadth" (defArgs s_has_breadth) (defBody s_has_breadth) (defScope s_has_breadth) .none kV12 dc12 pm12 an12 cd12 ct12), sl12⟩)
    (c12 : PySem.W.codeIn K cd12 "has_breadth" = true) (k12 : PySem.W.keepIn K (.ref f12) = true)
    {f13 : Addr} {od13 an13 : Option Addr} {sl13 : Array (Option Value)} {oc13 kV13 dc13 pm13 cd13 ct13 : Value}
    (a13 : PySem.W.nsIn K mainGlobals "opposed" = some (some (.ref f13))) (l13 : K.lookup f13 = some ⟨oc13, od13, .func (PySem.W.fnOf "opposed" "opposed" (defArgs s_opposed) (defBody s_opposed) (defScope s_opposed) .none kV13 dc13 pm13 an13 cd13 ct13), sl13⟩)
    (c13 : PySem.W.codeIn K cd13 "opposed" = true) (k13 : PySem.W.keepIn K (.ref f13) = true)
    {f14 : Addr} {od14 an14 : Option Addr} {sl14 : Array (Option Value)} {oc14 kV14 dc14 pm14 cd14 ct14 : Value}
    (a14 : PySem.W.nsIn K mainGlobals "gathered" = some (some (.ref f14))) (l14 : K.lookup f14 = some ⟨oc14, od14, .func (PySem.W.fnOf "gathered" "gathered" (defArgs s_gathered) (defBody s_gathered) (defScope s_gathered) .none kV14 dc14 pm14 an14 cd14 ct14), sl14⟩)
    (c14 : PySem.W.codeIn K cd14 "gathered" = true) (k14 : PySem.W.keepIn K (.ref f14) = true)
    {f15 : Addr} {od15 an15 : Option Addr} {sl15 : Array (Option Value)} {oc15 kV15 dc15 pm15 cd15 ct15 : Value}
    (a15 : PySem.W.nsIn K mainGlobals "check_heap" = some (some (.ref f15))) (l15 : K.lookup f15 = some ⟨oc15, od15, .func (PySem.W.fnOf "check_heap" "check_heap" (defArgs s_check_heap) (defBody s_check_heap) (defScope s_check_heap) .none kV15 dc15 pm15 an15 cd15 ct15), sl15⟩)
    (c15 : PySem.W.codeIn K cd15 "check_heap" = true) (k15 : PySem.W.keepIn K (.ref f15) = true)
    {f16 : Addr} {od16 an16 : Option Addr} {sl16 : Array (Option Value)} {oc16 kV16 dc16 pm16 cd16 ct16 : Value}
    (a16 : PySem.W.nsIn K mainGlobals "check_heaps" = some (some (.ref f16))) (l16 : K.lookup f16 = some ⟨oc16, od16, .func (PySem.W.fnOf "check_heaps" "check_heaps" (defArgs s_check_heaps) (defBody s_check_heaps) (defScope s_check_heaps) .none kV16 dc16 pm16 an16 cd16 ct16), sl16⟩)
    (c16 : PySem.W.codeIn K cd16 "check_heaps" = true) (k16 : PySem.W.keepIn K (.ref f16) = true)
    {f17 : Addr} {od17 an17 : Option Addr} {sl17 : Array (Option Value)} {oc17 kV17 dc17 pm17 cd17 ct17 : Value}
    (a17 : PySem.W.nsIn K mainGlobals "breadth_of_heap" = some (some (.ref f17))) (l17 : K.lookup f17 = some ⟨oc17, od17, .func (PySem.W.fnOf "breadth_of_heap" "breadth_of_heap" (defArgs s_breadth_of_heap) (defBody s_breadth_of_heap) (defScope s_breadth_of_heap) .none kV17 dc17 pm17 an17 cd17 ct17), sl17⟩)
    (c17 : PySem.W.codeIn K cd17 "breadth_of_heap" = true) (k17 : PySem.W.keepIn K (.ref f17) = true)
    {f18 : Addr} {od18 an18 : Option Addr} {sl18 : Array (Option Value)} {oc18 kV18 dc18 pm18 cd18 ct18 : Value}
    (a18 : PySem.W.nsIn K mainGlobals "_law_deck" = some (some (.ref f18))) (l18 : K.lookup f18 = some ⟨oc18, od18, .func (PySem.W.fnOf "_law_deck" "_law_deck" (defArgs s__law_deck) (defBody s__law_deck) (defScope s__law_deck) .none kV18 dc18 pm18 an18 cd18 ct18), sl18⟩)
    (c18 : PySem.W.codeIn K cd18 "_law_deck" = true) (k18 : PySem.W.keepIn K (.ref f18) = true)
    {f19 : Addr} {od19 an19 : Option Addr} {sl19 : Array (Option Value)} {oc19 kV19 dc19 pm19 cd19 ct19 : Value}
    (a19 : PySem.W.nsIn K mainGlobals "_law_draw" = some (some (.ref f19))) (l19 : K.lookup f19 = some ⟨oc19, od19, .func (PySem.W.fnOf "_law_draw" "_law_draw" (defArgs s__law_draw) (defBody s__law_draw) (defScope s__law_draw) .none kV19 dc19 pm19 an19 cd19 ct19), sl19⟩)
    (c19 : PySem.W.codeIn K cd19 "_law_draw" = true) (k19 : PySem.W.keepIn K (.ref f19) = true)
    {f20 : Addr} {od20 an20 : Option Addr} {sl20 : Array (Option Value)} {oc20 kV20 dc20 pm20 cd20 ct20 : Value}
    (a20 : PySem.W.nsIn K mainGlobals "_law_pick" = some (some (.ref f20))) (l20 : K.lookup f20 = some ⟨oc20, od20, .func (PySem.W.fnOf "_law_pick" "_law_pick" (defArgs s__law_pick) (defBody s__law_pick) (defScope s__law_pick) .none kV20 dc20 pm20 an20 cd20 ct20), sl20⟩)
    (c20 : PySem.W.codeIn K cd20 "_law_pick" = true) (k20 : PySem.W.keepIn K (.ref f20) = true)
    {f21 : Addr} {od21 an21 : Option Addr} {sl21 : Array (Option Value)} {oc21 kV21 dc21 pm21 cd21 ct21 : Value}
    (a21 : PySem.W.nsIn K mainGlobals "_law_great" = some (some (.ref f21))) (l21 : K.lookup f21 = some ⟨oc21, od21, .func (PySem.W.fnOf "_law_great" "_law_great" (defArgs s__law_great) (defBody s__law_great) (defScope s__law_great) .none kV21 dc21 pm21 an21 cd21 ct21), sl21⟩)
    (c21 : PySem.W.codeIn K cd21 "_law_great" = true) (k21 : PySem.W.keepIn K (.ref f21) = true)
    {f22 : Addr} {od22 an22 : Option Addr} {sl22 : Array (Option Value)} {oc22 kV22 dc22 pm22 cd22 ct22 : Value}
    (a22 : PySem.W.nsIn K mainGlobals "_law_signed" = some (some (.ref f22))) (l22 : K.lookup f22 = some ⟨oc22, od22, .func (PySem.W.fnOf "_law_signed" "_law_signed" (defArgs s__law_signed) (defBody s__law_signed) (defScope s__law_signed) .none kV22 dc22 pm22 an22 cd22 ct22), sl22⟩)
    (c22 : PySem.W.codeIn K cd22 "_law_signed" = true) (k22 : PySem.W.keepIn K (.ref f22) = true)
    {f23 : Addr} {od23 an23 : Option Addr} {sl23 : Array (Option Value)} {oc23 kV23 dc23 pm23 cd23 ct23 : Value}
    (a23 : PySem.W.nsIn K mainGlobals "_law_powers" = some (some (.ref f23))) (l23 : K.lookup f23 = some ⟨oc23, od23, .func (PySem.W.fnOf "_law_powers" "_law_powers" (defArgs s__law_powers) (defBody s__law_powers) (defScope s__law_powers) .none kV23 dc23 pm23 an23 cd23 ct23), sl23⟩)
    (c23 : PySem.W.codeIn K cd23 "_law_powers" = true) (k23 : PySem.W.keepIn K (.ref f23) = true)
    {f24 : Addr} {od24 an24 : Option Addr} {sl24 : Array (Option Value)} {oc24 kV24 dc24 pm24 cd24 ct24 : Value}
    (a24 : PySem.W.nsIn K mainGlobals "_law_product" = some (some (.ref f24))) (l24 : K.lookup f24 = some ⟨oc24, od24, .func (PySem.W.fnOf "_law_product" "_law_product" (defArgs s__law_product) (defBody s__law_product) (defScope s__law_product) .none kV24 dc24 pm24 an24 cd24 ct24), sl24⟩)
    (c24 : PySem.W.codeIn K cd24 "_law_product" = true) (k24 : PySem.W.keepIn K (.ref f24) = true)
    {f25 : Addr} {od25 an25 : Option Addr} {sl25 : Array (Option Value)} {oc25 kV25 dc25 pm25 cd25 ct25 : Value}
    (a25 : PySem.W.nsIn K mainGlobals "_law_numbers" = some (some (.ref f25))) (l25 : K.lookup f25 = some ⟨oc25, od25, .func (PySem.W.fnOf "_law_numbers" "_law_numbers" (defArgs s__law_numbers) (defBody s__law_numbers) (defScope s__law_numbers) .none kV25 dc25 pm25 an25 cd25 ct25), sl25⟩)
    (c25 : PySem.W.codeIn K cd25 "_law_numbers" = true) (k25 : PySem.W.keepIn K (.ref f25) = true)
    {f26 : Addr} {od26 an26 : Option Addr} {sl26 : Array (Option Value)} {oc26 kV26 dc26 pm26 cd26 ct26 : Value}
    (a26 : PySem.W.nsIn K mainGlobals "_law_unit" = some (some (.ref f26))) (l26 : K.lookup f26 = some ⟨oc26, od26, .func (PySem.W.fnOf "_law_unit" "_law_unit" (defArgs s__law_unit) (defBody s__law_unit) (defScope s__law_unit) .none kV26 dc26 pm26 an26 cd26 ct26), sl26⟩)
    (c26 : PySem.W.codeIn K cd26 "_law_unit" = true) (k26 : PySem.W.keepIn K (.ref f26) = true)
    {f27 : Addr} {od27 an27 : Option Addr} {sl27 : Array (Option Value)} {oc27 kV27 dc27 pm27 cd27 ct27 : Value}
    (a27 : PySem.W.nsIn K mainGlobals "_law_stripe" = some (some (.ref f27))) (l27 : K.lookup f27 = some ⟨oc27, od27, .func (PySem.W.fnOf "_law_stripe" "_law_stripe" (defArgs s__law_stripe) (defBody s__law_stripe) (defScope s__law_stripe) .none kV27 dc27 pm27 an27 cd27 ct27), sl27⟩)
    (c27 : PySem.W.codeIn K cd27 "_law_stripe" = true) (k27 : PySem.W.keepIn K (.ref f27) = true)
    {f28 : Addr} {od28 an28 : Option Addr} {sl28 : Array (Option Value)} {oc28 kV28 dc28 pm28 cd28 ct28 : Value}
    (a28 : PySem.W.nsIn K mainGlobals "_law_drawn" = some (some (.ref f28))) (l28 : K.lookup f28 = some ⟨oc28, od28, .func (PySem.W.fnOf "_law_drawn" "_law_drawn" (defArgs s__law_drawn) (defBody s__law_drawn) (defScope s__law_drawn) .none kV28 dc28 pm28 an28 cd28 ct28), sl28⟩)
    (c28 : PySem.W.codeIn K cd28 "_law_drawn" = true) (k28 : PySem.W.keepIn K (.ref f28) = true)
    {f29 : Addr} {od29 an29 : Option Addr} {sl29 : Array (Option Value)} {oc29 kV29 dc29 pm29 cd29 ct29 : Value}
    (a29 : PySem.W.nsIn K mainGlobals "_law_heap" = some (some (.ref f29))) (l29 : K.lookup f29 = some ⟨oc29, od29, .func (PySem.W.fnOf "_law_heap" "_law_heap" (defArgs s__law_heap) (defBody s__law_heap) (defScope s__law_heap) .none kV29 dc29 pm29 an29 cd29 ct29), sl29⟩)
    (c29 : PySem.W.codeIn K cd29 "_law_heap" = true) (k29 : PySem.W.keepIn K (.ref f29) = true)
    {f30 : Addr} {od30 an30 : Option Addr} {sl30 : Array (Option Value)} {oc30 kV30 dc30 pm30 cd30 ct30 : Value}
    (a30 : PySem.W.nsIn K mainGlobals "_law_summed" = some (some (.ref f30))) (l30 : K.lookup f30 = some ⟨oc30, od30, .func (PySem.W.fnOf "_law_summed" "_law_summed" (defArgs s__law_summed) (defBody s__law_summed) (defScope s__law_summed) .none kV30 dc30 pm30 an30 cd30 ct30), sl30⟩)
    (c30 : PySem.W.codeIn K cd30 "_law_summed" = true) (k30 : PySem.W.keepIn K (.ref f30) = true)
    {f31 : Addr} {od31 an31 : Option Addr} {sl31 : Array (Option Value)} {oc31 kV31 dc31 pm31 cd31 ct31 : Value}
    (a31 : PySem.W.nsIn K mainGlobals "_law_are_due" = some (some (.ref f31))) (l31 : K.lookup f31 = some ⟨oc31, od31, .func (PySem.W.fnOf "_law_are_due" "_law_are_due" (defArgs s__law_are_due) (defBody s__law_are_due) (defScope s__law_are_due) .none kV31 dc31 pm31 an31 cd31 ct31), sl31⟩)
    (c31 : PySem.W.codeIn K cd31 "_law_are_due" = true) (k31 : PySem.W.keepIn K (.ref f31) = true)
    {f32 : Addr} {od32 an32 : Option Addr} {sl32 : Array (Option Value)} {oc32 kV32 dc32 pm32 cd32 ct32 : Value}
    (a32 : PySem.W.nsIn K mainGlobals "_law_are_multiples" = some (some (.ref f32))) (l32 : K.lookup f32 = some ⟨oc32, od32, .func (PySem.W.fnOf "_law_are_multiples" "_law_are_multiples" (defArgs s__law_are_multiples) (defBody s__law_are_multiples) (defScope s__law_are_multiples) .none kV32 dc32 pm32 an32 cd32 ct32), sl32⟩)
    (c32 : PySem.W.codeIn K cd32 "_law_are_multiples" = true) (k32 : PySem.W.keepIn K (.ref f32) = true)
    {f33 : Addr} {od33 an33 : Option Addr} {sl33 : Array (Option Value)} {oc33 kV33 dc33 pm33 cd33 ct33 : Value}
    (a33 : PySem.W.nsIn K mainGlobals "law" = some (some (.ref f33))) (l33 : K.lookup f33 = some ⟨oc33, od33, .func (PySem.W.fnOf "law" "law" (defArgs s_law) (defBody s_law) (defScope s_law) .none kV33 dc33 pm33 an33 cd33 ct33), sl33⟩)
    (c33 : PySem.W.codeIn K cd33 "law" = true) (k33 : PySem.W.keepIn K (.ref f33) = true)
    (z0 : PySem.W.nsIn K mainGlobals "all" = some none)
    (z1 : PySem.W.nsIn K mainGlobals "bool" = some none)
    (z2 : PySem.W.nsIn K mainGlobals "int" = some none)
    (z3 : PySem.W.nsIn K mainGlobals "isinstance" = some none)
    (z4 : PySem.W.nsIn K mainGlobals "len" = some none)
    (z5 : PySem.W.nsIn K mainGlobals "list" = some none)
    (z6 : PySem.W.nsIn K mainGlobals "max" = some none)
    (z7 : PySem.W.nsIn K mainGlobals "range" = some none)
    (z8 : PySem.W.nsIn K mainGlobals "repr" = some none)
    (z9 : PySem.W.nsIn K mainGlobals "sorted" = some none)
    (z10 : PySem.W.nsIn K mainGlobals "tuple" = some none)
    (z11 : PySem.W.nsIn K mainGlobals "zip" = some none)
    (b0 : PySem.W.nsIn K mainGlobals "gcd" = some (some (.builtin "math.gcd")))
    (v0 : PySem.W.nsIn K mainGlobals "PRIMES" = some (some (.ref (He.ga K "PRIMES")))) (w0 : He.tupB K "PRIMES" (([2, 3, 5, 7, 11, 13, 17, 19, 23, 29] : List Int).map He.Dv.int) = true)
    {t1 : Tok} (v1 : PySem.W.nsIn K mainGlobals "MOST_BREADTH" = some (some (.int 3 t1)))
    {t2 : Tok} (v2 : PySem.W.nsIn K mainGlobals "MOST_PRIMES_MULTIPLIED" = some (some (.int 1000 t2)))
    : ∃ fd : FuncData, (∀ (s : Shared) (u : Value), BindsTo s fd ⟨[u], []⟩ [("_law_script", u)]) ∧ ∀ base : Heap, K.In base → base.Ns mainGlobals mg → GFn l.prog w K mg base 10 fa fd ["_law_script"] (PV.sp_law K) := by
  obtain ⟨T⟩ := all_mk X G a0 l0 c0 k0 a1 l1 c1 k1 a2 l2 c2 k2 a3 l3 c3 k3 a4 l4 c4 k4 a5 l5 c5 k5 a6 l6 c6 k6 a7 l7 c7 k7 a8 l8 c8 k8 a9 l9 c9 k9 a10 l10 c10 k10 a11 l11 c11 k11 a12 l12 c12 k12 a13 l13 c13 k13 a14 l14 c14 k14 a15 l15 c15 k15 a16 l16 c16 k16 a17 l17 c17 k17 a18 l18 c18 k18 a19 l19 c19 k19 a20 l20 c20 k20 a21 l21 c21 k21 a22 l22 c22 k22 a23 l23 c23 k23 a24 l24 c24 k24 a25 l25 c25 k25 a26 l26 c26 k26 a27 l27 c27 k27 a28 l28 c28 k28 a29 l29 c29 k29 a30 l30 c30 k30 a31 l31 c31 k31 a32 l32 c32 k32 a33 l33 c33 k33 z0 z1 z2 z3 z4 z5 z6 z7 z8 z9 z10 z11 b0 v0 w0 v1 v2
  obtain rfl := law_at T hfa
  exact ⟨_, law_binds T, fun base _ _ => ok_law T⟩
theorem law_want (K : PySem.W.Frag) (H : Hp) (a : Addr) (ns : List Int) (hl : ns.length ≤ 63) (hs : SqL K H a (ns.map V.int)) : PV.sp_law K [.ref a] H (fun v _ => v = .bl true) E0 := ⟨a, ns, rfl, hs, hl, fun _ => rfl⟩
end KL
open PySem PySem.W PyProof.Rows
set_option maxHeartbeats 0 in
theorem PySem.Challenge.cw_slantpanes_k13_sums_differences_and_mult_holds : PySem.Challenge.rw_slantpanes_k13_sums_differences_and_mult.Holds := by
  w_on; o_law; k_head; (case hw => w_witness2)
  k_fill
  refine Kw.walk_G (l := PySem.Challenge.rw_slantpanes_k13_sums_differences_and_mult) (n := 63) (k := 10) (x := "_law_script") (sp := PV.sp_law) rfl (by decide) rfl ⟨rfl, by decide, by decide⟩ (fun w h Y => PySem.W.kIn_of Y) ?F KL.law_want
  case F =>
    intro w mg fa h KX G hmg
    refine' KL.all_end KX G hmg ?a0 ?l0 ?c0 ?k0 ?a1 ?l1 ?c1 ?k1 ?a2 ?l2 ?c2 ?k2 ?a3 ?l3 ?c3 ?k3 ?a4 ?l4 ?c4 ?k4 ?a5 ?l5 ?c5 ?k5 ?a6 ?l6 ?c6 ?k6 ?a7 ?l7 ?c7 ?k7 ?a8 ?l8 ?c8 ?k8 ?a9 ?l9 ?c9 ?k9 ?a10 ?l10 ?c10 ?k10 ?a11 ?l11 ?c11 ?k11 ?a12 ?l12 ?c12 ?k12 ?a13 ?l13 ?c13 ?k13 ?a14 ?l14 ?c14 ?k14 ?a15 ?l15 ?c15 ?k15 ?a16 ?l16 ?c16 ?k16 ?a17 ?l17 ?c17 ?k17 ?a18 ?l18 ?c18 ?k18 ?a19 ?l19 ?c19 ?k19 ?a20 ?l20 ?c20 ?k20 ?a21 ?l21 ?c21 ?k21 ?a22 ?l22 ?c22 ?k22 ?a23 ?l23 ?c23 ?k23 ?a24 ?l24 ?c24 ?k24 ?a25 ?l25 ?c25 ?k25 ?a26 ?l26 ?c26 ?k26 ?a27 ?l27 ?c27 ?k27 ?a28 ?l28 ?c28 ?k28 ?a29 ?l29 ?c29 ?k29 ?a30 ?l30 ?c30 ?k30 ?a31 ?l31 ?c31 ?k31 ?a32 ?l32 ?c32 ?k32 ?a33 ?l33 ?c33 ?k33 ?z0 ?z1 ?z2 ?z3 ?z4 ?z5 ?z6 ?z7 ?z8 ?z9 ?z10 ?z11 ?b0 ?v0 ?w0 ?v1 ?v2
    (case a0 => k_is)
    (case l0 => k_is)
    (case c0 => k_is)
    (case k0 => k_is)
    (case a1 => k_is)
    (case l1 => k_is)
    (case c1 => k_is)
    (case k1 => k_is)
    (case a2 => k_is)
    (case l2 => k_is)
    (case c2 => k_is)
    (case k2 => k_is)
    (case a3 => k_is)
    (case l3 => k_is)
    (case c3 => k_is)
    (case k3 => k_is)
    (case a4 => k_is)
    (case l4 => k_is)
    (case c4 => k_is)
    (case k4 => k_is)
    (case a5 => k_is)
    (case l5 => k_is)
    (case c5 => k_is)
    (case k5 => k_is)
    (case a6 => k_is)
    (case l6 => k_is)
    (case c6 => k_is)
    (case k6 => k_is)
    (case a7 => k_is)
    (case l7 => k_is)
    (case c7 => k_is)
    (case k7 => k_is)
    (case a8 => k_is)
    (case l8 => k_is)
    (case c8 => k_is)
    (case k8 => k_is)
    (case a9 => k_is)
    (case l9 => k_is)
    (case c9 => k_is)
    (case k9 => k_is)
    (case a10 => k_is)
    (case l10 => k_is)
    (case c10 => k_is)
    (case k10 => k_is)
    (case a11 => k_is)
    (case l11 => k_is)
    (case c11 => k_is)
    (case k11 => k_is)
    (case a12 => k_is)
    (case l12 => k_is)
    (case c12 => k_is)
    (case k12 => k_is)
    (case a13 => k_is)
    (case l13 => k_is)
    (case c13 => k_is)
    (case k13 => k_is)
    (case a14 => k_is)
    (case l14 => k_is)
    (case c14 => k_is)
    (case k14 => k_is)
    (case a15 => k_is)
    (case l15 => k_is)
    (case c15 => k_is)
    (case k15 => k_is)
    (case a16 => k_is)
    (case l16 => k_is)
    (case c16 => k_is)
    (case k16 => k_is)
    (case a17 => k_is)
    (case l17 => k_is)
    (case c17 => k_is)
    (case k17 => k_is)
    (case a18 => k_is)
    (case l18 => k_is)
    (case c18 => k_is)
    (case k18 => k_is)
    (case a19 => k_is)
    (case l19 => k_is)
    (case c19 => k_is)
    (case k19 => k_is)
    (case a20 => k_is)
    (case l20 => k_is)
    (case c20 => k_is)
    (case k20 => k_is)
    (case a21 => k_is)
    (case l21 => k_is)
    (case c21 => k_is)
    (case k21 => k_is)
    (case a22 => k_is)
    (case l22 => k_is)
    (case c22 => k_is)
    (case k22 => k_is)
    (case a23 => k_is)
    (case l23 => k_is)
    (case c23 => k_is)
    (case k23 => k_is)
    (case a24 => k_is)
    (case l24 => k_is)
    (case c24 => k_is)
    (case k24 => k_is)
    (case a25 => k_is)
    (case l25 => k_is)
    (case c25 => k_is)
    (case k25 => k_is)
    (case a26 => k_is)
    (case l26 => k_is)
    (case c26 => k_is)
    (case k26 => k_is)
    (case a27 => k_is)
    (case l27 => k_is)
    (case c27 => k_is)
    (case k27 => k_is)
    (case a28 => k_is)
    (case l28 => k_is)
    (case c28 => k_is)
    (case k28 => k_is)
    (case a29 => k_is)
    (case l29 => k_is)
    (case c29 => k_is)
    (case k29 => k_is)
    (case a30 => k_is)
    (case l30 => k_is)
    (case c30 => k_is)
    (case k30 => k_is)
    (case a31 => k_is)
    (case l31 => k_is)
    (case c31 => k_is)
    (case k31 => k_is)
    (case a32 => k_is)
    (case l32 => k_is)
    (case c32 => k_is)
    (case k32 => k_is)
    (case a33 => k_is)
    (case l33 => k_is)
    (case c33 => k_is)
    (case k33 => k_is)
    (case z0 => k_is)
    (case z1 => k_is)
    (case z2 => k_is)
    (case z3 => k_is)
    (case z4 => k_is)
    (case z5 => k_is)
    (case z6 => k_is)
    (case z7 => k_is)
    (case z8 => k_is)
    (case z9 => k_is)
    (case z10 => k_is)
    (case z11 => k_is)
    (case b0 => k_is)
    (case v0 => k_is)
    (case w0 => kernel_rfl)
    (case v1 => k_is)
    (case v2 => k_is)
