import PyProof.Rows.All
import Wide.All
import OpenK.AllK
import Wide.FinOn
import HandS.ForMost
import HandS.Wide
import HandS.WideMore
import HandS.IsInst
import HandS.Gcd
import HandS.Style
import HandS.Zip
import HandS.TupAny
import HandS.SortInts
import PyProof.ReprRoads
import HandS.Ends
import HandS.Star
import KE.GoesEnum
import HandS.Walk
import PyProof.Rows.RegStrFacts
import PySem.Challenge.RW_slantpanes_k05_normal_forms_and_same_cel
import HandS.Evl
import HandS.HeadHook2
set_option Elab.async false
set_option linter.all false
set_option maxRecDepth 100000
set_option maxHeartbeats 8000000
set_option exponentiation.threshold 3000
/-! Periods by their primes: plain mathematics. -/
namespace KM
def PN : List Nat := [2, 3, 5, 7, 11, 13, 17, 19, 23, 29]
theorem PN_nodup : PN.Nodup := by decide
theorem PN_lt : ∀ p ∈ PN, 2 ≤ p ∧ p ≤ 29 := by decide
theorem PN_div0 : ∀ p ∈ PN, ∀ d < 30, d ∣ p → d = 1 ∨ d = p := by decide
theorem PN_div {p d : Nat} (hp : p ∈ PN) (h : d ∣ p) : d = 1 ∨ d = p := by
  have := PN_lt p hp
  have := Nat.le_of_dvd (by omega) h
  exact PN_div0 p hp d (by omega) h
theorem cop_of {p a : Nat} (hp : p ∈ PN) (h : ¬ p ∣ a) : Nat.Coprime p a := by
  rcases PN_div hp (Nat.gcd_dvd_left p a) with e | e
  · exact e
  · exact absurd (e ▸ Nat.gcd_dvd_right p a) h
theorem dvd_mul_of {p a b : Nat} (hp : p ∈ PN) (h : p ∣ a * b) : p ∣ a ∨ p ∣ b := by
  by_cases c : p ∣ a
  · exact .inl c
  · exact .inr ((cop_of hp c).dvd_of_dvd_mul_left h)
theorem dvd_pow_of {p a : Nat} (hp : p ∈ PN) : ∀ {e : Nat}, p ∣ a ^ e → p ∣ a
  | 0, h => by
    have := PN_lt p hp
    have := Nat.le_of_dvd (by omega) (show p ∣ 1 from h)
    omega
  | e + 1, h => by
    rw [Nat.pow_succ] at h
    rcases dvd_mul_of hp h with h | h
    · exact dvd_pow_of hp h
    · exact h
theorem eq_of_dvd {p q : Nat} (hp : p ∈ PN) (hq : q ∈ PN) (h : p ∣ q) : p = q := by
  have := PN_lt p hp
  rcases PN_div hq h with e | e <;> omega

/-- a period by its primes and exponents -/
def mOf : List (Nat × Nat) → Nat
  | [] => 1
  | x :: r => x.1 ^ x.2 * mOf r
structure Pw (pw : List (Nat × Nat)) : Prop where
  sub : (pw.map (·.1)).Sublist PN
  pos : ∀ x ∈ pw, 1 ≤ x.2
theorem Pw.mem {pw : List (Nat × Nat)} (h : Pw pw) {x : Nat × Nat} (hx : x ∈ pw) : x.1 ∈ PN := h.sub.subset (List.mem_map_of_mem hx)
theorem Pw.tail {x : Nat × Nat} {pw : List (Nat × Nat)} (h : Pw (x :: pw)) : Pw pw :=
  ⟨(List.sublist_cons_self x.1 (pw.map fun y => y.1)).trans (show (x.1 :: pw.map fun y => y.1).Sublist PN from h.sub), fun y hy => h.pos y (List.mem_cons_of_mem _ hy)⟩
theorem Pw.nodup {pw : List (Nat × Nat)} (h : Pw pw) : (pw.map (·.1)).Nodup := h.sub.nodup PN_nodup
theorem mOf_pos : ∀ {pw : List (Nat × Nat)}, Pw pw → 1 ≤ mOf pw
  | [], _ => Nat.le_refl 1
  | x :: r, h => by
    have h1 := mOf_pos h.tail
    have h2 := PN_lt _ (h.mem List.mem_cons_self)
    have h3 : 0 < x.1 ^ x.2 := Nat.pow_pos (by omega)
    exact Nat.mul_pos h3 h1
theorem dvd_mOf {p : Nat} (hp : p ∈ PN) : ∀ {pw : List (Nat × Nat)}, Pw pw → (p ∣ mOf pw ↔ p ∈ pw.map (·.1))
  | [], _ => by
    have := PN_lt p hp
    refine ⟨fun h => ?_, fun h => by cases h⟩
    have := Nat.le_of_dvd (by omega) (show p ∣ 1 from h)
    omega
  | x :: r, h => by
    have ih := dvd_mOf hp h.tail
    rw [List.map_cons, List.mem_cons]
    constructor
    · intro d
      rcases dvd_mul_of hp (show p ∣ x.1 ^ x.2 * mOf r from d) with d | d
      · exact .inl (eq_of_dvd hp (h.mem List.mem_cons_self) (dvd_pow_of hp d))
      · exact .inr (ih.mp d)
    · rintro (e | e)
      · subst e
        have := h.pos x List.mem_cons_self
        exact Nat.dvd_trans (Nat.dvd_trans (by rw [show x.1 ^ x.2 = x.1 * x.1 ^ (x.2 - 1) by rw [Nat.mul_comm, ← Nat.pow_succ]; congr 1; omega]; exact Nat.dvd_mul_right _ _) (Nat.dvd_refl _)) (Nat.dvd_mul_right _ _)
      · exact Nat.dvd_trans (ih.mpr e) (Nat.dvd_mul_left _ _)
theorem filter_sub {α : Type} [DecidableEq α] : ∀ {s l : List α}, s.Sublist l → l.Nodup → l.filter (fun x => decide (x ∈ s)) = s
  | _, _, .slnil, _ => rfl
  | s, x :: l, .cons _ h, n => by
    have hx : x ∉ s := fun z => (List.nodup_cons.mp n).1 (h.subset z)
    rw [List.filter_cons_of_neg (by simpa using hx)]
    exact filter_sub h (List.nodup_cons.mp n).2
  | x :: s, _ :: l, .cons₂ _ h, n => by
    rw [List.filter_cons_of_pos (by simp)]
    congr 1
    have n' := (List.nodup_cons.mp n)
    rw [show l.filter (fun y => decide (y ∈ x :: s)) = l.filter (fun y => decide (y ∈ s)) from List.filter_congr fun y hy => by
      have : y ≠ x := fun e => n'.1 (e ▸ hy)
      simp [this]]
    exact filter_sub h n'.2
theorem primes_mOf {pw : List (Nat × Nat)} (h : Pw pw) : PN.filter (fun p => decide (p ∣ mOf pw)) = pw.map (·.1) := by
  rw [← filter_sub h.sub PN_nodup]
  refine List.filter_congr fun p hp => ?_
  simp only [dvd_mOf hp h, filter_sub h.sub PN_nodup]
/-- the power of the first prime -/
theorem part_first {x : Nat × Nat} {r : List (Nat × Nat)} (h : Pw (x :: r)) {k : Nat} (h1 : x.1 ^ k ∣ mOf (x :: r)) (h2 : ¬ x.1 ^ (k + 1) ∣ mOf (x :: r)) : k = x.2 := by
  have hp := h.mem List.mem_cons_self
  have p2 := PN_lt _ hp
  rcases Nat.lt_trichotomy k x.2 with c | c | c
  · exact absurd (Nat.dvd_trans (Nat.pow_dvd_pow x.1 c) (Nat.dvd_mul_right _ _)) h2
  · exact c
  · have d : x.1 ^ (x.2 + 1) ∣ x.1 ^ x.2 * mOf r := Nat.dvd_trans (Nat.pow_dvd_pow x.1 c) h1
    rw [Nat.pow_succ] at d
    have d2 : x.1 ∣ mOf r := Nat.dvd_of_mul_dvd_mul_left (Nat.pow_pos (by omega)) d
    have := (dvd_mOf hp h.tail).mp d2
    exact absurd this (List.nodup_cons.mp h.nodup).1
theorem cop_pow {p g : Nat} (h : Nat.Coprime p g) (e : Nat) : Nat.Coprime (p ^ e) g := Nat.Coprime.pow_left e h
/-- what divides a period and is not 1 is divisible by one of its primes -/
theorem prime_in {g : Nat} : ∀ {pw : List (Nat × Nat)}, Pw pw → g ∣ mOf pw → (∀ x ∈ pw, ¬ x.1 ∣ g) → g = 1
  | [], _, h, _ => Nat.dvd_one.mp h
  | x :: r, hw, h, hn => by
    have c : Nat.Coprime (x.1 ^ x.2) g := cop_pow (cop_of (hw.mem List.mem_cons_self) (hn x List.mem_cons_self)) _
    exact prime_in hw.tail (c.symm.dvd_of_dvd_mul_left h) fun y hy => hn y (List.mem_cons_of_mem _ hy)
/-- the prime powers divide a number exactly if their product does -/
theorem parts_dvd {g : Nat} : ∀ {pw : List (Nat × Nat)}, Pw pw → ((∀ x ∈ pw, x.1 ^ x.2 ∣ g) ↔ mOf pw ∣ g)
  | [], _ => ⟨fun _ => Nat.one_dvd g, fun _ _ h => by cases h⟩
  | x :: r, hw => by
    have ih := parts_dvd (g := g) hw.tail
    have c : Nat.Coprime (x.1 ^ x.2) (mOf r) := by
      refine cop_pow (cop_of (hw.mem List.mem_cons_self) fun d => ?_) _
      exact (List.nodup_cons.mp hw.nodup).1 ((dvd_mOf (hw.mem List.mem_cons_self) hw.tail).mp d)
    constructor
    · intro h
      exact c.mul_dvd_of_dvd_of_dvd (h x List.mem_cons_self) (ih.mp fun y hy => h y (List.mem_cons_of_mem _ hy))
    · intro h y hy
      rcases List.mem_cons.mp hy with rfl | hy
      · exact Nat.dvd_trans (Nat.dvd_mul_right _ _) h
      · exact ih.mpr (Nat.dvd_trans (Nat.dvd_mul_left _ _) h) y hy
theorem part_dvd_mOf {pw : List (Nat × Nat)} (h : Pw pw) {x : Nat × Nat} (hx : x ∈ pw) : x.1 ^ x.2 ∣ mOf pw := (parts_dvd h).mpr (Nat.dvd_refl _) x hx
/-- numbers that no prime of the period divides -/
theorem unit_cop {u : Nat} {pw : List (Nat × Nat)} (h : Pw pw) (hu : ∀ x ∈ pw, ¬ x.1 ∣ u) : Nat.Coprime u (mOf pw) := by
  refine prime_in h (Nat.gcd_dvd_right u (mOf pw)) fun x hx d => ?_
  exact hu x hx (Nat.dvd_trans d (Nat.gcd_dvd_left _ _))
end KM
/-! Calls where nothing is under way of being shown (guards known empty), so that repr of tuples is exact. -/
namespace Kw
open PySem PySem.Spec PyProof.Rows L2

abbrev Quiet (A : Around) : Prop := A.guards = some []

/-- as the layer's promise of a def, asked only where nothing is under way -/
structure GFn (P : Program) (w : World) (K : PySem.W.Frag) (mg : Str → Option Value) (base : Heap)
    (k : Nat) (f : Addr) (fd : FuncData) (ps : List Str) (sp : Sp) : Prop where
  len : ∀ vs H Q E, sp vs H Q E → vs.length = ps.length
  go : ∀ (A : Around), Quiet A → ∀ (outer : List Env) (s : Shared) (H : Hp) (args : Args) (us : List Value)
    (vs : List V) (Q : VK) (E : XK), Room k A → Env0 P w K mg base A outer s H → BindsTo s fd args (ps.zip us) →
    Vals vs us → sp vs H Q E → codeAny (model P w) A (.call (.ref f) args) (CR CX0 outer P w H s Q E) s

section
variable {P : Program} {w : World} {K : PySem.W.Frag} {mg : Str → Option Value} {base : Heap}
  {k j : Nat} {f : Addr} {fd : FuncData} {ps N : List Str} {sp : Sp} {x qual : Str} {st : Stmt}

theorem GFn.mono (F : GFn P w K mg base j f fd ps sp) (h : j ≤ k) : GFn P w K mg base k f fd ps sp :=
  ⟨F.len, fun A g outer s H args us vs Q E hr => F.go A g outer s H args us vs Q E (hr.mono h)⟩
theorem gfn (F : FnOk P w K mg base CX0 k f fd ps sp) : GFn P w K mg base k f fd ps sp :=
  ⟨F.len, fun A _ outer s H args us vs Q E => F.run A outer s H args us vs Q E⟩

/-- the rule for a def of the text -/
theorem gfn_of (F : Fun K x qual st f fd) (S : FnScope N ps (defScope st)) (len : ∀ vs H Q E, sp vs H Q E → vs.length = ps.length)
    (body : ∀ (cdv : Value) (A : Around) (outer : List Env) (s : Shared) (H : Hp) (vs : List V) (Q : VK) (E : XK),
      Quiet (A.deeper (envOfC qual (defScope st) s.heap.objs.size f cdv)) →
      Room k (A.deeper (envOfC qual (defScope st) s.heap.objs.size f cdv)) → sp vs H Q E →
      ∃ t, PSs (cxOf CX0 P w K mg base N qual (defScope st) f cdv A outer s H E).nox (defBody st) t ∧
        t { nx := fun _ H' => Q .non H', rt := Q } (start N vs) H) :
    GFn P w K mg base (k + 1) f fd ps sp := by
  obtain ⟨oc, od, kV, doc, pm, an, cdv, ct, osl, efd, lk, hcd⟩ := F.ex
  subst efd
  constructor
  · exact len
  intro A gA outer s H args us vs Q E room env bind rel want
  have old := fun b o e => (env.bs b o e).1
  have inS : K.In s.heap := env.mod.kin.keeps old
  have noLim : s.heap.NoLimit := env.mod.nolimit.keeps old
  have nL := len _ _ _ _ want
  have kinds : ∀ y ∈ ps.zip us, (defScope st).names.lookup y.1 = some .local ∨
      ((defScope st).names.lookup y.1 = some .cell ∧ ((cellsFrom (s.heap.objs.size + 1) (defScope st).names []).lookup y.1).isSome = true) := by
    intro y hy
    have hm : y.1 ∈ ps := (List.of_mem_zip (a := y.1) (b := y.2) hy).1
    cases S.par y.1 hm with
    | inl q => exact Or.inl q
    | inr q => exact Or.inr ⟨q, PySem.W.cellsFrom_some _ _ _ (Or.inl q)⟩
  apply codeAny_call_function room.depth (inS _ _ lk) rfl S.co S.gen rfl (PySem.W.codeRec_of inS hcd)
  apply bind
  refine wpAny_newFunctionEnv_cells S.kind kinds ?_
  intro env' e' s1 made
  cases e'
  refine ⟨noLim.keeps made.toInCall.keep, codeAny_func ?_⟩
  obtain ⟨t, der, read⟩ := body cdv A outer s H vs Q E gA (room.deeper _) want
  have I0 := inv_start (CX := CX0) (N := N) (E := E) (cd := cdv) (qual := qual) S room.hd env nL rel made
  have ran := der.nox.run [] s1 (start N vs) H _ I0 read
  refine wpAny_mono ran ?_ (fun _ _ z => z)
  intro fl s2 out
  cases fl with
  | brk => obtain ⟨_, _, _, z⟩ := out; exact z.elim
  | cont => obtain ⟨_, _, _, z⟩ := out; exact z.elim
  | next =>
    obtain ⟨_, H2, J, z⟩ := out
    exact ⟨V.non, H2, J.os, J.bare, J.base, J.hok, rfl, z⟩
  | ret u =>
    obtain ⟨v, _, H2, J, rv, z⟩ := out
    exact ⟨v, H2, J.os, J.bare, J.base, J.hok, rv, z⟩
end

section
variable {X : Cx} {k : Nat} {f : Addr} {fd : FuncData} {ps ks : List Str} {sp : Sp} {dvs : List V} {ds : List Value}
  {x : Str} {p pos kpos : Pos} {e : Expr} {es : List Expr} {t tk : TA} {kws : List Keyword}

def Back (X : Cx) (pins : List (Addr × Obj)) (σ : L2.St) (Q : VK) : Result → Shared → Prop
  | .ok (.ret u), s' => EP X pins σ Q u s'
  | _, _ => False
theorem out_of {pins : List (Addr × Obj)} {σ : L2.St} {H : Hp} {s s' : Shared} {Q : VK} {r : Result} (I : Inv X pins σ H s)
    (h : CR CX0 X.stack X.prog X.w H s Q E0 r s') : Back X pins σ Q r s' := by
  match r, h with
  | .ok (.ret u), h => exact I.after h
  | .ok .next, h => exact h
  | .ok .brk, h => exact h
  | .ok .cont, h => exact h
  | .error _, h => exact h

theorem g_run {pins : List (Addr × Obj)} {σ : L2.St} {H : Hp} {s : Shared} {Q : VK} {args : Args} {us : List Value} {vs : List V}
    (G : GFn X.prog X.w X.K X.mg X.base k f fd ps sp) (q : Quiet X.A) (hr : Room k X.A) (I : Inv X pins σ H s)
    (b : BindsTo s fd args (ps.zip us)) (r : Vals vs us) (h : sp vs H Q E0) :
    codeAny (model X.prog X.w) X.A (.call (.ref f) args) (Back X pins σ Q) s :=
  codeAny_mono (G.go X.A q X.stack s H args us vs Q E0 hr I.env0 b r h) fun _ _ z => out_of I z

/-- f(e, ..) -/
theorem pe_callG (G : GFn X.prog X.w X.K X.mg X.base k f fd ps sp) (q : Quiet X.A) (hr : Room k X.A) (hg : Gl X x) (hm : X.mg x = some (.ref f))
    (hk : PySem.W.keepIn X.K (.ref f) = true) (hb : Binds X.K fd ps ds) (hd : Vals dvs ds) (ha : PA X (e :: es) t)
    (hdb : (x == ("__debug__" : Str)) = false := by decide)
    (he : starEach (e :: es) X.env = (false, eval e X.env) :: starEach es X.env := by rfl)
    (hpl : (backTo pos (starEach es X.env)).any (·.1) = false := by rfl) :
    PE X (.Call (.Name x p) (e :: es) [] pos) (tCall sp dvs E0 t) := by
  constructor
  intro pins s σ H Q I want
  refine wpAny_Call_Name_kw (ld_glob I hg hm ?_ hdb)
  refine PySem.W.callWith_K (h₀ := X.base) I.ok.mod.kin hk ?_ he hpl
  refine thn (ha.run pos pins s σ H _ I want) ?_
  rintro us s1 ⟨vs, H1, I1, r, w1⟩
  refine ⟨I1.kIn, ?_⟩
  have r2 := r.append hd
  have n2 : (us ++ ds).length = ps.length := r2.length.symm.trans (G.len _ _ _ _ w1)
  refine wpAny_call (codeAny_mono (g_run G q hr I1 (hb s1 us I1.kIn n2) r2 w1) ?_)
  intro r s2 z
  match r, z with
  | .ok (.ret u), z => exact z

/-- f(e, .., k = v, ..) -/
theorem pe_callKG {g : List Value → List Value → List Value} {gV : List V → List V → List V} (G : GFn X.prog X.w X.K X.mg X.base k f fd ps sp) (q : Quiet X.A) (hr : Room k X.A) (hg : Gl X x)
    (hm : X.mg x = some (.ref f)) (hk : PySem.W.keepIn X.K (.ref f) = true) (hb : KBinds X.K fd ps ks g gV) (ha : PA X (e :: es) t) (hkw : PK X kws tk)
    (hall : (backToKw pos (keywordEach kws X.env)).all (·.1.isSome) = true := by rfl)
    (hks : (backToKw pos (keywordEach kws X.env)).filterMap (·.1) = ks := by rfl)
    (hdb : (x == ("__debug__" : Str)) = false := by decide)
    (he : starEach (e :: es) X.env = (false, eval e X.env) :: starEach es X.env := by rfl)
    (hpl : ((backTo pos (starEach (e :: es) X.env)).any (·.1) || (backToKw pos (keywordEach kws X.env)).any (·.1.isNone)) = false := by rfl) :
    PE X (.Call (.Name x p) (e :: es) kws pos) (tCallK sp gV E0 t tk) := by
  constructor
  intro pins s σ H Q I want
  refine wpAny_Call_Name_kw (ld_glob I hg hm ?_ hdb)
  refine PySem.W.callWith_KW (h₀ := X.base) I.ok.mod.kin hk hall ?_ hpl he
  refine thn (ha.run pos pins s σ H _ I want) ?_
  rintro us s1 ⟨vs, H1, I1, r, w1⟩
  refine thn (hkw.run pos pins s1 σ H1 _ I1 w1) ?_
  rintro ws s2 ⟨zs, H2, I2, rz, w2⟩
  refine ⟨I2.kIn, ?_⟩
  rw [hks]
  have r2 := hb.rel r rz
  have n2 : (g us ws).length = ps.length := r2.length.symm.trans (G.len _ _ _ _ w2)
  refine wpAny_call (codeAny_mono (g_run G q hr I2 (hb.to s2 us ws I2.kIn n2) r2 w2) ?_)
  intro r s3 z
  match r, z with
  | .ok (.ret u), z => exact z

/-- repr of data of lists and tuples -/
def rRepr (K : PySem.W.Frag) : List V → Hp → VK → Prop := fun xs H Q => ∃ (a : Addr) (d : PyData), xs = [.ref a] ∧ Dp K H (.ref a) d ∧
  d.showable = true ∧ d.hasDict = false ∧ d.depth ≤ 40 ∧ d.shown.length ≤ sizeLine ∧ Q (.str d.shown) H
theorem call_reprD (q : Quiet X.A) (hu : X.A.units + 64 < cLine) : CallR X (.builtin "repr") (rRepr X.K) := by
  intro pins s σ H xs us Q I r h
  obtain ⟨a, d, rfl, hd, h1, h2, h3, h4, w1⟩ := h
  obtain ⟨u, rfl, ru⟩ := vals1 r
  obtain rfl : u = Value.ref a := ru
  obtain ⟨as, rd⟩ := Dp.reads I d _ _ hd rfl
  refine repr_of_reads' rd h1 (PyData.noDict_hsm h2) q (by omega) (fun _ _ e => e) ?_ h4
  intro h' u tk keep
  exact ⟨.str d.shown, H, I.kept (t' := tk) keep, ⟨u, rfl⟩, w1⟩
end
end Kw
namespace Kw
open PySem PySem.Spec PyProof.Rows L2

/-- what stands tracked at the law's call: the script alone, or nothing -/
structure Entry (P : Program) (w : World) (K : PySem.W.Frag) (a : Addr) (xs : List V) (h : Heap) (H : Hp) : Prop where
  only : Only H
  seq : SqL K H a xs
  ok : HOk P w H h
  one : ∀ b, H b ≠ none → b = a ∧ K.lookup b = none

theorem entry_made {P : Program} {w : World} {K : PySem.W.Frag} {a : Addr} {vs : List Value} {ns : List Int} {h : Heap} (KX : K.In h)
    (ha : h.get? a = some { cls := .type "list", data := .seq vs.toArray }) (hi : IntsAre vs ns) (hl : ns.length ≤ sizeLine) :
    ∃ H, Entry P w K a (ns.map V.int) h H := by
  have rv : Vals (ns.map V.int) vs := vals_ints hi
  have hl' : (ns.map V.int).length ≤ sizeLine := by simpa using hl
  cases e : K.lookup a with
  | some o =>
    obtain rfl : o = { cls := .type "list", data := .seq vs.toArray } := Option.some.inj ((KX a o e).symm.trans ha)
    refine ⟨fun _ => none, fun _ => .inl rfl, ?_, fun b u z => by simp at z, fun b z => absurd rfl z⟩
    exact .inr ⟨_, vs.toArray, _, e, rfl, rfl, rfl, by rw [List.size_toArray, hi.length]; exact hl, by simpa using rv⟩
  | none =>
    let o : Obj := { cls := .type "list", data := .seq vs.toArray }
    let H : Hp := fun b => if b = a then some (.frz o (.lst (ns.map V.int))) else none
    have at_a : H a = some (.frz o (.lst (ns.map V.int))) := if_pos rfl
    have elsewhere : ∀ b, b ≠ a → H b = none := fun b hb => if_neg hb
    refine ⟨H, ?_, .inl (.inr ⟨o, at_a⟩), ?_, ?_⟩
    · intro b
      rcases Classical.em (b = a) with rfl | hb
      · exact .inr ⟨_, _, at_a⟩
      · exact .inl (elsewhere b hb)
    · intro b u z
      rcases Classical.em (b = a) with rfl | hb
      · rw [at_a] at z
        cases z
        exact ⟨ha, hl', vs, _, rv, ha⟩
      · rw [elsewhere b hb] at z
        cases z
    · intro b z
      rcases Classical.em (b = a) with rfl | hb
      · exact ⟨rfl, e⟩
      · exact absurd (elsewhere b hb) z

theorem law_callG {P : Program} {w : World} {K : PySem.W.Frag} {mg mb : Str → Option Value} {k : Nat} {fa a : Addr} {fd : FuncData} {x : Str} {sp : Sp} {s : Shared} {vs : List Value} {ns : List Int}
    (KX : K.In s.heap) (hns : s.heap.Ns mainGlobals mg) (hb : s.heap.Ns builtinsNs mb) (hbb : ∀ x : Str, x ≠ "__name__" → mb x = bootBuiltins x)
    (hlim : s.heap.NoLimit) (hg : s.gens = #[]) (ha : s.heap.get? a = some { cls := .type "list", data := .seq vs.toArray })
    (hi : IntsAre vs ns) (hl : ns.length ≤ sizeLine) (hr : Room k callerA)
    (F : ∀ base : Heap, K.In base → base.Ns mainGlobals mg → GFn P w K mg base k fa fd [x] sp)
    (bind : ∀ (s : Shared) (u : Value), BindsTo s fd ⟨[u], []⟩ [(x, u)])
    (want : ∀ H : Hp, SqL K H a (ns.map V.int) → sp [.ref a] H (fun v _ => v = .bl true) E0) :
    codeAny (model P w) callerA (.call (.ref fa) ⟨[.ref a], []⟩)
      (fun r s' => r = .ok (.ret (.bool true)) ∧ OldK s.heap s'.heap ∧ s'.os = s.os ∧ AllBare s'.gens) s := by
  obtain ⟨H, T⟩ := entry_made (P := P) (w := w) KX ha hi hl
  -- a dict is never the script, so the dicts of the modules stay in the base
  have noDict : ∀ {b : Addr} {o : Obj} {es : Array DictEntry} {ep : Nat}, s.heap.get? b = some o → o.data = .dict es ep → H b = none := by
    intro b o es ep e d
    cases q : H b with
    | none => rfl
    | some u =>
      obtain ⟨rfl, _⟩ := T.one b (by simp [q])
      rw [ha] at e
      cases e
      cases d
  have ns_base : ∀ {b : Addr} {m : Str → Option Value}, s.heap.Ns b m → (hidT s.heap H).Ns b m := by
    rintro b m ⟨o, es, ep, e, d, r⟩
    exact ⟨o, es, ep, hidT_get e (noDict e d), d, r⟩
  have K_base : K.In (hidT s.heap H) := by
    intro b o e
    refine hidT_get (KX b o e) ?_
    cases q : H b with
    | none => rfl
    | some u =>
      have z := (T.one b (by simp [q])).2
      rw [z] at e
      cases e
  have mod : Mod K mg (hidT s.heap H) := by
    obtain ⟨mc, l1, l2⟩ := hlim
    exact ⟨K_base, ns_base hns, ⟨mb, ns_base hb, hbb⟩, mc, ns_base l1, l2⟩
  have env : Env0 P w K mg (hidT s.heap H) callerA [] s H :=
    { frames := rfl, mod := mod, bs := fun b o e => of_hidT e, bsz := Nat.le_of_eq (hidT_size _ _), funs := trivial,
      frf := fun b z => absurd (show b ∈ ([] : List Addr) from z) (by simp), hok := T.ok, bare := .of_eq hg }
  refine codeAny_mono ((F _ K_base (ns_base hns)).go callerA rfl [] s H ⟨[.ref a], []⟩ [.ref a] [.ref a] _ _ hr env (bind s (.ref a)) (.cons rfl .nil) (want H T.seq)) ?_
  intro r s' z
  match r, z with
  | .ok (.ret u), z =>
    obtain ⟨v, H', os, bare, un, ok', rv, ev⟩ := z
    have ev : v = .bl true := ev
    subst ev
    obtain rfl : u = Value.bool true := rv
    refine ⟨rfl, OldK.of_keep ?_, os, bare⟩
    intro b o e
    cases q : H b with
    | none => exact un.keep b o e q (fun z => absurd (show b ∈ ([] : List Addr) from z) (by simp)) (by simp)
    | some u =>
      rcases T.only b with z | ⟨ob, xs, z⟩
      · rw [q] at z; cases z
      · have e1 := (T.ok b _ z).1
        have e2 := (ok' b _ (un.frzs b ob _ z)).1
        rw [e] at e1
        cases e1
        exact e2

theorem walk_G {l : PySem.W.OpenLaw} {n k : Nat} {q : Program} {loose : List Str} {XP : (Str → Option Value) → Heap → Prop} {YP : World → Heap → Prop} {d : DefRec} {K : Params → PySem.W.Frag} {sp : PySem.W.Frag → Sp} {x : Str}
    (hn : l.most = some n) (hn2 : n ≤ sizeLine) (hdf : d.params.defaults = []) (hr : Room k callerA) (hY : ∀ (w : World) (h : Heap), YP w h → (K w.params).In h)
    (F : ∀ (w : World) (mg : Str → Option Value) (fa : Addr) (h : Heap), (K w.params).In h → h.Ns mainGlobals mg → mg d.name = some (.ref fa) →
      ∃ fd : FuncData, (∀ (s : Shared) (u : Value), BindsTo s fd ⟨[u], []⟩ [(x, u)]) ∧
        ∀ base : Heap, (K w.params).In base → base.Ns mainGlobals mg → GFn l.prog w (K w.params) mg base k fa fd [x] (sp (K w.params)))
    (want : ∀ (K : PySem.W.Frag) (H : Hp) (a : Addr) (ns : List Int), ns.length ≤ n → SqL K H a (ns.map V.int) → sp K [.ref a] H (fun v _ => v = .bl true) E0) :
    PySem.W.WalkO q loose XP YP l.row.toRowW d [] (fun f vs => PySem.call f vs) := by
  apply Att.attach_call hn hdf
  intro w s₀ s₁ mg mb fa o pm cd doc a vs ns G Y ho hd hcd hmg hobj hints hlen hg
  obtain ⟨fd, b, go⟩ := F w mg fa s₁.heap (hY w _ Y) G.T.g hmg
  exact law_callG (hY w _ Y) G.T.g G.T.b G.T.builtins G.T.nolimit hg hobj hints (Nat.le_trans hlen hn2) hr go b (fun H z => want _ H a ns hlen z)
end Kw
namespace Kw
open PySem PySem.Spec PyProof.Rows L2 RZ StX SrtO
section
variable {X : Cx} {k : Nat} {f : Addr} {fd : FuncData} {ps ks : List Str} {sp : Sp} {x : Str} {p pos : Pos} {e : Expr} {es : List Expr} {t tk : TA} {kws : List Keyword}

theorem ip_mulW : PIp X .Mult (rI CMulW fun i j => .int (i * j)) := by
  intro pins s σ H x y v u Q I rx ry h
  obtain ⟨i, j, rfl, rfl, hc, q⟩ := h
  obtain ⟨t, rfl⟩ := rx
  obtain ⟨t', rfl⟩ := ry
  exact imul_int ⟨.int _, H, I.tok _, ⟨_, rfl⟩, q⟩ hc.ok
theorem ip_fdivW : PIp X .FloorDiv (rI CDivW fun i j => .int (i / j)) := fun pins s σ H x y v u Q I rx ry h => iop_fdivW pins s σ H x y v u Q I rx ry h

/-- f(k = v, ..): names alone -/
def tCallN (sp : Sp) (gV : List V → List V → List V) (t : TA) : TE := fun σ H Q => t σ H fun zs H1 => sp (gV [] zs) H1 Q E0
theorem pe_callN {g : List Value → List Value → List Value} {gV : List V → List V → List V} (G : GFn X.prog X.w X.K X.mg X.base k f fd ps sp) (q : Quiet X.A) (hr : Room k X.A) (hg : Gl X x)
    (hm : X.mg x = some (.ref f)) (hk : PySem.W.keepIn X.K (.ref f) = true) (hb : KBinds X.K fd ps ks g gV) (hkw : PK X kws tk)
    (hall : (backToKw pos (keywordEach kws X.env)).all (·.1.isSome) = true := by rfl)
    (hks : (backToKw pos (keywordEach kws X.env)).filterMap (·.1) = ks := by rfl)
    (hdb : (x == ("__debug__" : Str)) = false := by decide)
    (hpl : ((backTo pos (starEach [] X.env)).any (·.1) || (backToKw pos (keywordEach kws X.env)).any (·.1.isNone)) = false := by rfl) :
    PE X (.Call (.Name x p) [] kws pos) (tCallN sp gV tk) := by
  constructor
  intro pins s σ H Q I want
  refine wpAny_Call_Name_kw (ld_glob I hg hm ?_ hdb)
  refine PySem.W.callWith_KW0 (h₀ := X.base) I.ok.mod.kin hk hall ?_ hpl
  refine thn (hkw.run pos pins s σ H _ I want) ?_
  rintro ws s2 ⟨zs, H2, I2, rz, w2⟩
  refine ⟨I2.kIn, ?_⟩
  rw [hks]
  have r2 := hb.rel (vs := []) (us := []) .nil rz
  have n2 : (g [] ws).length = ps.length := r2.length.symm.trans (G.len _ _ _ _ w2)
  refine wpAny_call (codeAny_mono (g_run G q hr I2 (hb.to s2 [] ws I2.kIn n2) r2 w2) ?_)
  intro r s3 z
  match r, z with
  | .ok (.ret u), z => exact z
end

/-! ### heaps: what grows alone -/
theorem same_new {H : Hp} {p : Addr} (h : H p = none) (o : HO) : Same H (upd H p o) := fun b u q => by
  rw [upd_ne (ne_of_none q h)]
  exact q
theorem _root_.L2.Same.sqt {K : PySem.W.Frag} {H H' : Hp} {a : Addr} {xs : List V} (e : Same H H') (h : SqT K H a xs) : SqT K H' a xs := by
  rcases h with (h | ⟨o, h⟩) | h
  · exact .inl (.inl (e _ _ h))
  · exact .inl (.inr ⟨o, e _ _ h⟩)
  · exact .inr h
/-- written after what was there: kept too -/
theorem same_upd2 {H H' : Hp} {p : Addr} {o : HO} (e : Same H H') (h : H p = none) : Same H (upd H' p o) := fun b u q => by
  rw [upd_ne (ne_of_none q h)]
  exact e b u q

/-! ### the forms of comprehensions -/
/-- what a comprehension's list has come to: all else has only grown -/
def Lc (H1 : Hp) (D : Addr) (xs : Nat → List V) (i : Nat) (H : Hp) : Prop := Same H1 H ∧ H D = some (.lst (xs i))
theorem lc_start {H1 : Hp} {D : Addr} {xs : Nat → List V} (nD : H1 D = none) (h0 : xs 0 = []) : Lc H1 D xs 0 (upd H1 D (.lst [])) :=
  ⟨same_new nD _, by rw [upd_same, h0]⟩
theorem lc_leaf {H1 H4 : Hp} {D : Addr} {xs : Nat → List V} {i : Nat} {y : V} (nD : H1 D = none) (s : Same H1 H4) (e : H4 D = some (.lst (xs i)))
    (hl : (xs i).length ≤ 100000) (hy : xs (i + 1) = xs i ++ [y]) :
    ∃ acc, H4 D = some (.lst acc) ∧ acc.length < sizeLine ∧ Lc H1 D xs (i + 1) (upd H4 D (.lst (acc ++ [y]))) :=
  ⟨xs i, e, Nat.lt_of_le_of_lt hl (by decide), same_upd2 s nD, by rw [upd_same, hy]⟩
theorem lc_skip {H1 H3 : Hp} {D : Addr} {xs : Nat → List V} {i : Nat} (s : Same H1 H3) (e : H3 D = some (.lst (xs i))) (hy : xs (i + 1) = xs i) :
    Lc H1 D xs (i + 1) H3 := ⟨s, by rw [hy]; exact e⟩
theorem Lc.next {H1 H H' : Hp} {D : Addr} {xs : Nat → List V} {i : Nat} (h : Lc H1 D xs i H) (s : Same H H') : Lc H1 D xs i H' := ⟨h.1.trans s, s _ _ h.2⟩
/-- over zip of two tuples of one length -/
theorem lc_zipT {K : PySem.W.Frag} {a b : Addr} {xs ys : List V} {g : TG} {tt : TT} {te : TE} {vs : List Nat} {σ : L2.St} {H1 : Hp} {D : Addr} {Qd : Hp → Prop} (hl : xs.length = ys.length) (Pv : Nat → Hp → Prop) (h0 : Pv 0 (upd H1 D (.lst [])))
    (hq : ∀ i H, Pv i H → SqT K H a xs ∧ SqT K H b ys)
    (hs : ∀ (i : Nat) (x y : V) (T : Addr) (H : Hp), xs[i]? = some x → ys[i]? = some y → Pv i H → H T = none → g (.ref T) (wipe σ vs) (upd H T (.tup [x, y])) fun σ2 H2 => wipe σ2 vs = wipe σ vs ∧ tt σ2 H2 fun b H3 =>
      if b = true then te σ2 H3 fun y H4 => ∃ acc, H4 D = some (.lst acc) ∧ acc.length < sizeLine ∧ Pv (i + 1) (upd H4 D (.lst (acc ++ [y]))) else Pv (i + 1) H3)
    (hd : ∀ H, Pv xs.length H → Qd H) :
    ∃ W : Nat → Nat → Hp → Prop, (∃ m, W 0 m (upd H1 D (.lst []))) ∧ ∀ i m H, W i m H →
      ((ItzT K a b).stop i H ∧ Qd H) ∨ ((ItzT K a b).go i H ∧ ∃ Nx : Hp → Prop, (∀ H', Nx H' → ∃ m', m' < m ∧ W (i + 1) m' H') ∧ ∀ x H', (ItzT K a b).yld i H x H' → g x (wipe σ vs) H' fun σ2 H2 => wipe σ2 vs = wipe σ vs ∧ tt σ2 H2 fun b H3 =>
        if b = true then te σ2 H3 fun y H4 => ∃ acc, H4 D = some (.lst acc) ∧ acc.length < sizeLine ∧ Nx (upd H4 D (.lst (acc ++ [y]))) else Nx H3) := by
  refine ⟨fun i m H => m = xs.length - i ∧ i ≤ xs.length ∧ Pv i H, ⟨xs.length, rfl, Nat.zero_le _, h0⟩, ?_⟩
  rintro i m H ⟨em, hi, p⟩
  obtain ⟨qx, qy⟩ := hq i H p
  rcases Nat.lt_or_ge i xs.length with hlt | hge
  · have hx : xs[i]? = some xs[i] := List.getElem?_eq_getElem hlt
    have hy : ys[i]? = some (ys[i]'(hl ▸ hlt)) := List.getElem?_eq_getElem (hl ▸ hlt)
    refine .inr ⟨⟨xs, ys, _, _, qx, qy, hx, hy⟩, Pv (i + 1), fun H' p' => ⟨xs.length - (i + 1), by omega, rfl, hlt, p'⟩, ?_⟩
    rintro v H' ⟨T, x', y', rfl, hT, rfl, f1, f2⟩
    exact hs i x' y' T H (f1 xs qx) (f2 ys qy) p hT
  · obtain rfl : i = xs.length := by omega
    exact .inl ⟨⟨xs, ys, qx, qy, .inl (Nat.le_refl _)⟩, hd H p⟩
end Kw
/-! rules by the written part's name: within comprehensions -/
namespace Kw
open PySem PySem.Spec PyProof.Rows L2 RZ StX SrtO
section
variable {X : Cx} {K : PySem.W.Frag}
theorem cr_sumK (hc : X.calm = true := by rfl) (hK : X.K = K := by rfl) : CallR X (.builtin "sum") (rSum K) := hK ▸ cr_sum hc
theorem cr_allK (hc : X.calm = true := by rfl) (hK : X.K = K := by rfl) : CallR X (.builtin "all") (rAll K) := hK ▸ cr_all hc
theorem cr_anyK (hc : X.calm = true := by rfl) (hK : X.K = K := by rfl) : CallR X (.builtin "any") (rAny K) := hK ▸ cr_any hc
def rLenS (K : PySem.W.Frag) : List V → Hp → VK → Prop := fun xs H Q => ∃ p ys, xs = [.ref p] ∧ (SqL K H p ys ∨ SqT K H p ys) ∧ Q (.int ys.length) H
theorem call_lenK (hK : X.K = K := by rfl) : CallR X (.builtin "len") (rLenS K) := by
  subst hK
  exact call_len_seq
def rTupOf (K : PySem.W.Frag) : List V → Hp → VK → Prop := fun xs H Q => ∃ p ys, xs = [.ref p] ∧ ((SqL K H p ys ∧ ∀ l, H l = none → Q (.ref l) (upd H l (.tup ys))) ∨ (SqT K H p ys ∧ Q (.ref p) H))
theorem call_tupleK (hK : X.K = K := by rfl) : CallR X (.type "tuple") (rTupOf K) := by
  subst hK
  exact call_tuple_of
def rLstOf (K : PySem.W.Frag) : List V → Hp → VK → Prop := fun xs H Q => ∃ p ys, xs = [.ref p] ∧ (SqL K H p ys ∨ SqT K H p ys) ∧ ∀ l, H l = none → Q (.ref l) (upd H l (.lst ys))
theorem call_listK (hK : X.K = K := by rfl) : CallR X (.type "list") (rLstOf K) := by
  subst hK
  exact call_list_of
theorem cr_sortedIK (hK : X.K = K := by rfl) : CallR X (.builtin "sorted") (rSortedI K) := hK ▸ cr_sortedI
theorem pi_tupK {tg l : Expr} {tl : TE} (hl : PE X l tl) (hK : X.K = K := by rfl) : PI X tg l (iTup K tl) := hK ▸ pi_tup hl
theorem pi_listK {tg l : Expr} {tl : TE} (hl : PE X l tl) (hK : X.K = K := by rfl) : PI X tg l (iList K tl) := hK ▸ pi_list hl
theorem sl_listK (hK : X.K = K := by rfl) : SlR X (rSlL K) := hK ▸ sl_list
theorem op_inK (hK : X.K = K := by rfl) : OpR X (compareOp .In) (rIn K false) := hK ▸ op_in_seq
theorem op_notInK (hK : X.K = K := by rfl) : OpR X (compareOp .NotIn) (rIn K true) := hK ▸ op_notIn_seq
theorem call_isiK (hK : X.K = K := by rfl) : CallR X (.builtin "isinstance") (rIsi K) := hK ▸ call_isi
theorem op_eqDK (hu : X.A.units + 64 < cLine) (hK : X.K = K := by rfl) : OpR X (compareOp .Eq) (rEqD K) := hK ▸ op_eqD hu
theorem op_neDK (hu : X.A.units + 64 < cLine) (hK : X.K = K := by rfl) : OpR X (compareOp .NotEq) (rNeD K) := hK ▸ op_neD hu
theorem call_reprDK (q : Quiet X.A) (hu : X.A.units + 64 < cLine) (hK : X.K = K := by rfl) : CallR X (.builtin "repr") (rRepr K) := hK ▸ call_reprD q hu
end
end Kw
/-! enumerate of a tuple -/
namespace Kw
open PySem PySem.Spec PyProof.Rows L2
set_option maxHeartbeats 1000000 in
theorem meets_enum_new {v : Value} {o : Obj} {H : Heap → Prop} (B : Begins v o H) :
    Meets (Builtin.«enumerate.__new__» ⟨[.type "enumerate", v], []⟩) (fun _ R s => H s.heap ∧
      R (.ok (.ret (.ref (s.heap.push o).objs.size))) { s with heap := (s.heap.push o).push { cls := .type "enumerate", data := .fields #[.none, .bool false, .ref s.heap.objs.size, rawInt 0, .none, .none] } }) :=
  .of_wp fun prog w A R s h => by
    obtain ⟨hp, g, d, tk, os⟩ := s
    obtain ⟨h1, h⟩ := h
    have hsub := sub_enumerate
    have q1 : ∀ {A' : Around} {E : Value → Shared → Prop} {Q : Value → Shared → Prop}, Q (.ref hp.objs.size) ⟨hp.push o, g, d, tk, os⟩ → wpAny (model prog w) A' (pyIter v) Q E ⟨hp, g, d, tk, os⟩ :=
      fun q => B.iter prog w _ _ ⟨hp, g, d, tk, os⟩ _ h1 q
    wp_walk using q1
    refine wpAny_stack_any fun st => wpAny_pure ?_
    split
    · rename_i c _ _ _ _ _
      cases (c == Value.type "enumerate")
      · wp_walk using q1
        exact ⟨_, rfl, h⟩
      · wp_walk using q1
        exact ⟨_, rfl, h⟩
    · wp_walk using q1
      exact ⟨_, rfl, h⟩
section
variable {prog : Program} {w : World} {A : Around} {E : Value → Shared → Prop} {s : Shared}
theorem call_enum_new {v : Value} {o : Obj} {H : Heap → Prop} {Q : Value → Shared → Prop} (B : Begins v o H) (h1 : H s.heap)
    (h : ∀ h', IsEnum h' (s.heap.objs.size + 1) s.heap.objs.size 0 .none → h'.get? s.heap.objs.size = some o → h'.objs.size = s.heap.objs.size + 2 →
      (∀ b o, s.heap.get? b = some o → h'.get? b = some o) → Q (.ref (s.heap.objs.size + 1)) { s with heap := h' }) :
    wpAny (model prog w) A (call (.type "enumerate") [v]) Q E s := by
  refine callType_new F.called_enumerate (by decide) (F.typeCall_enumerate_1 _) (F.newCall_enumerate_1 _) (fun obj => F.args_object_init_2 obj _) F.entry_enumerate_new
    (meets_enum_new B) ⟨h1, ?_⟩
  have hz : (s.heap.push o).objs.size = s.heap.objs.size + 1 := Heap.size_push ..
  show _ ∧ _
  rw [hz]
  have he : IsEnum ((s.heap.push o).push { cls := .type "enumerate", data := .fields #[.none, .bool false, .ref s.heap.objs.size, rawInt 0, .none, .none] }) (s.heap.objs.size + 1) s.heap.objs.size 0 .none := by
    have := Heap.get?_push_size (s.heap.push o) (o := { cls := .type "enumerate", data := .fields #[.none, .bool false, .ref s.heap.objs.size, rawInt 0, .none, .none] }) rfl
    rw [hz] at this
    exact this
  refine ⟨⟨_, he, rfl⟩, h _ he (Heap.get?_push_of_some _ (Heap.get?_push_size _ B.free)) (by rw [Heap.size_push, hz]) fun b o x => Heap.get?_push_of_some _ (Heap.get?_push_of_some _ x)⟩
end
/-- the tuple at a, each item in a new pair behind its place -/
def IteT (K : PySem.W.Frag) (a : Addr) : It :=
  ⟨fun i H => ∃ (xs : List V) (x : V), SqT K H a xs ∧ xs[i]? = some x, fun i H v H' => ∃ T x, v = .ref T ∧ H T = none ∧ H' = upd H T (.tup [.int (i : Nat), x]) ∧ ∀ xs, SqT K H a xs → xs[i]? = some x, fun i H => ∃ xs : List V, SqT K H a xs ∧ xs.length ≤ i⟩
theorem turn_enumT {P : Program} {w : World} {K : PySem.W.Frag} {elts : List Expr} {kk : Nat} {tpos : Pos} (a e it : Addr) :
    Turn P w K (.Tuple elts kk tpos) (IteT K a) [e, it] e (fun i h => (∃ old, IsEnum h e it ((i : Nat) : Int) old) ∧ h.IsTupleIter it a i ∧ e ≠ it) where
  mem := by simp
  obj := fun i h st b hb => by
    obtain ⟨⟨old, he⟩, ⟨o, ho, hc, hd⟩, _⟩ := st
    have e' : b = e ∨ b = it := by simpa using hb
    rcases e' with z | z
    · rw [z]; exact ⟨_, he, fun v q => nomatch q⟩
    · rw [z]; exact ⟨o, ho, fun v q => by rw [hd] at q; cases q⟩
  keep := fun i h h' st k => let ⟨⟨old, he⟩, hi, hne⟩ := st; ⟨⟨old, k e (by simp) _ he⟩, hi.at fun o q => k it (by simp) o q, hne⟩
  item := by
    intro X hP hw hK hc i pins s σ H E I hf st hg
    subst hP hw hK
    obtain ⟨⟨old, he⟩, hit, hne⟩ := st
    obtain ⟨xs, x, hq, hx⟩ := hg
    obtain ⟨its, rv, p, hz⟩ := I.tuple hq
    have p : s.heap.IsTuple a its.toArray := p
    obtain ⟨u, hu, ru⟩ := rv.get hx
    have hel : e < s.heap.objs.size := Heap.lt_size he
    have hil : it < s.heap.objs.size := by obtain ⟨_, q, _⟩ := hit; exact Heap.lt_size q
    have hilt : i < its.toArray.size := by
      have := (List.getElem?_eq_some_iff.mp hu).1
      simpa using this
    have nat : a ≠ it := by
      rintro rfl
      obtain ⟨o, ho, hc1, hd1⟩ := hit
      obtain ⟨o', ho', hc2, _⟩ := p
      rw [ho] at ho'
      cases ho'
      rw [hc1] at hc2
      exact absurd hc2 (by decide)
    have nae : e ≠ a := by
      rintro rfl
      obtain ⟨o', ho', hc2, _⟩ := p
      have he' : s.heap.get? e = some _ := he
      rw [he'] at ho'
      cases ho'
      exact absurd (show Value.type "enumerate" = Value.type "tuple" from hc2) (by decide)
    have hd := I.ok.hd hc
    have D := Draws.tuple (prog := X.prog) (w := X.w) (A := X.A.in1) (show X.A.in1.handled = none from hd) it a nat its.toArray
    refine wpAny_pyNext_enum_itemD D he ⟨hit, p⟩ hilt hne (by simp [hne, nae]) fun y h' tk hP ho hst hT hsz hk => ?_
    have hit' := hst.1
    have ey : y = u := by
      have h1 : its.toArray[i]? = some u := by simpa using hu
      rw [h1] at hP
      exact (Option.some.inj hP).symm
    subst ey
    refine ⟨_, rfl, wpAny_letOwnedTupleGo_enum (s := { s with heap := h', toks := tk + 1 }) ho fun h'' he' sb => ?_⟩
    have hT2 : h''.get? s.heap.objs.size = some { cls := .type "tuple", data := .seq #[.int i tk, y] } := (sb.2 _ (Nat.ne_of_gt hel)).trans hT
    have new : ObjOk X.prog X.w (upd H s.heap.objs.size (.tup [.int (i : Nat), x])) h'' s.heap.objs.size (.tup [.int (i : Nat), x]) :=
      ⟨by show 2 ≤ sizeLine; decide, [.int i tk, y], .cons ⟨_, rfl⟩ (.cons ru .nil), ⟨_, hT2, rfl, _, rfl⟩⟩
    have I1 : Inv X pins σ (upd H s.heap.objs.size (.tup [.int (i : Nat), x])) { s with heap := h'', toks := tk + 1 } :=
      I.turnedNew (ch := [e, it]) (fun b ob hb q => (sb.2 b (fun z => hb (by simp [z]))).trans (hk b ob (fun z => hb (by simp [z])) (fun z => hb (by simp [z])) q)) hf (Nat.le_refl _) new
    refine ⟨.ref s.heap.objs.size, _, I1, rfl, ⟨_, x, rfl, I.hok.fresh (Nat.le_refl _), rfl, fun ys hy => by rw [I.tuple_inj hy hq]; exact hx⟩, ⟨⟨y, ?_⟩, hit'.at fun o q => (sb.2 it (Ne.symm hne)).trans q, hne⟩, fun b hb => ?_⟩
    · have e1 : ((i + 1 : Nat) : Int) = (i : Int) + 1 := by omega
      rw [e1]; exact he'
    · have hb' : b < s.heap.objs.size := by
        have e' : b = e ∨ b = it := by simpa using hb
        rcases e' with z | z
        · rw [z]; exact hel
        · rw [z]; exact hil
      rw [upd_ne (Nat.ne_of_lt hb')]
      exact (hf b hb).1
  done := by
    intro X hP hw hK hc i pins s σ H E I hf st hg
    subst hP hw hK
    obtain ⟨⟨old, he⟩, hit, hne⟩ := st
    obtain ⟨xs, hq, hx⟩ := hg
    obtain ⟨its, rv, p, hz⟩ := I.tuple hq
    have p : s.heap.IsTuple a its.toArray := p
    obtain ⟨f0, f1, f2, f3, f4, f5⟩ := hf it (by simp)
    have hl := rv.length
    have hd := I.ok.hd hc
    have hT : s.TypeIs (.ref e) "enumerate" := ⟨_, he, rfl⟩
    unfold pyNext
    refine wpAny_bind (wpAny_attempt (wpAny_callSpecial?_slot (name := Str.ofString "__next__") hT F.slot_enumerate_next
      (wpAny_call_entry F.slot_enumerate_next hT F.entry_enumerate_next ?_ (F.args_enumerate_next_1 _))))
    show wpAny _ _ (field (.ref e) 2 >>= _) _ _ _
    refine wpAny_bind (wpAny_field he rfl (x := .ref it) rfl ?_)
    refine wpAny_bind (wpAny_nextOf_tuple_end (A := X.A.in1) (show X.A.in1.handled = none from hd) hit p (by simp; omega) fun h' x he' hx' => ?_)
    obtain ⟨o, ho, hc⟩ := hx'
    refine wpAny_bind (wpAny_isInstance (T := "StopIteration") (b := true) ⟨o, ho, hc⟩ isSubtype_stop ?_)
    exact wpAny_pure ⟨rfl, I.turned (t' := s.toks) (fun b o hb q => he' b o hb q) f0 f1 f3 f4 f5⟩
  self := fun A i s Q E st h => let ⟨⟨_, he⟩, _⟩ := st; wpAny_pyIter_enum he h
def iEnumT (K : PySem.W.Frag) (ta : TA) : TI := fun σ H R => ta σ H fun vs H1 => ∃ a xs, vs = [.ref a] ∧ SqT K H1 a xs ∧ R (IteT K a) H1
theorem pi_enumT {X : Cx} {e : Expr} {ta : TA} {p pos tpos : Pos} {elts : List Expr} {kk : Nat} (hg : Gl X "enumerate") (hm : X.mg "enumerate" = none) (ha : PA X [e] ta) (hs : starEach [e] X.env = [(false, eval e X.env)] := by rfl) :
    PI X (.Tuple elts kk tpos) (.Call (.Name "enumerate" p) [e] [] pos) (iEnumT X.K ta) := by
  refine ⟨fun pins s σ H R I h => ?_⟩
  refine Call_ (ld_blt I hg hm boot_enumerate (PyProof.Rows.callWith_type1 (thn (ha.run pos pins s σ H _ I h) fun us s1 ⟨vs, H1, I1, r1, q1⟩ => ?_) hs rfl))
  obtain ⟨a, xs, ex, hq, q⟩ := q1
  subst ex
  cases r1 with
  | cons r rr =>
    cases rr
    cases r
    obtain ⟨its, rv, p', hz⟩ := I1.tuple hq
    refine call_enum_new (begins_tuple a its.toArray) p' fun h' he hit hsz hk => wpAny_pyIter_enum he ?_
    have I2 : Inv X pins σ H1 { s1 with heap := h' } := I1.kept (t' := s1.toks) hk
    refine ⟨s1.heap.objs.size + 1, [s1.heap.objs.size + 1, s1.heap.objs.size], _, _, H1, rfl, I2, turn_enumT a (s1.heap.objs.size + 1) s1.heap.objs.size, ⟨⟨.none, he⟩, ⟨_, hit, rfl, rfl⟩, Nat.succ_ne_self _⟩, fun b hb => ?_, q⟩
    have e' : b = s1.heap.objs.size + 1 ∨ b = s1.heap.objs.size := by simpa using hb
    have hle : s1.heap.objs.size ≤ b := by
      rcases e' with z | z
      · rw [z]; exact Nat.le_add_right _ _
      · rw [z]; exact Nat.le_refl _
    exact I1.fpOk hle (I1.hok.fresh hle)
theorem walk_enumT {K : PySem.W.Frag} {a : Addr} {xs : List V} : Walk (IteT K a) xs.length (fun H => SqT K H a xs) (YPair (fun i => some (.int (i : Nat))) (fun i => xs[i]?)) := by
  refine ⟨fun i H hi h => ⟨xs, xs[i], h, List.getElem?_eq_getElem hi⟩, fun H h => ⟨xs, h, Nat.le_refl _⟩, ?_⟩
  rintro i H v H' hi h ⟨T, x, rfl, hT, rfl, f⟩
  exact ⟨T, _, x, rfl, hT, rfl, rfl, f xs h⟩
end Kw
/-! texts of data, data compared -/
namespace Kw
open PySem PySem.Spec PyProof.Rows L2
/-- data whose text is told: n signs at most, k deep -/
structure Rp (n k : Nat) (d : PyData) : Prop where
  sh : d.showable = true
  nd : d.hasDict = false
  dp : d.depth ≤ k
  ln : d.shown.length ≤ n
  cl : d.canLay0 = true
theorem Rp.mono {n k n' k' : Nat} {d : PyData} (h : Rp n k d) (h1 : n ≤ n') (h2 : k ≤ k') : Rp n' k' d := ⟨h.sh, h.nd, Nat.le_trans h.dp h2, Nat.le_trans h.ln h1, h.cl⟩
theorem log2_lt {i : Int} (h : i.natAbs < 2 ^ 1900) : i.natAbs.log2 < 1920 := by
  by_cases e : i.natAbs = 0
  · rw [e]
    decide
  · exact Nat.lt_trans ((Nat.log2_lt e).mpr h) (by decide)
theorem Rp.int {i : Int} (h : i.natAbs < 2 ^ 1900) : Rp 1921 0 (.int i) := by
  have hl := log2_lt h
  refine ⟨by simp [PyData.showable, hl], by simp [PyData.hasDict], by simp [PyData.depth], ?_, by simp [PyData.canLay0]⟩
  simp only [PyData.shown]
  exact int_text_len_1921 hl
theorem Rp.bl (b : Bool) : Rp 5 0 (.bool b) := by
  cases b <;> refine ⟨rfl, rfl, Nat.le_refl _, by decide, rfl⟩
theorem Rp.non : Rp 5 0 .none := ⟨rfl, rfl, Nat.le_refl _, by decide, rfl⟩
theorem rp_showAll {n k : Nat} : ∀ {ds : List PyData}, (∀ d ∈ ds, Rp n k d) → PyData.showableAll ds = true ∧ PyData.hasDictAll ds = false ∧ PyData.depthAll ds ≤ k ∧ PyData.canLayAll0 ds = true ∧ piled (PyData.shownAll ds) ≤ ds.length * (n + 2) ∧ (PyData.shownAll ds).length = ds.length
  | [], _ => by simp [PyData.showableAll, PyData.hasDictAll, PyData.depthAll, PyData.canLayAll0, PyData.shownAll, piled]
  | d :: ds, h => by
    obtain ⟨h1, h2, h3, h4, h5, h6⟩ := rp_showAll fun x hx => h x (List.mem_cons_of_mem d hx)
    have r := h d List.mem_cons_self
    refine ⟨by simp [PyData.showableAll, h1, r.sh], by simp [PyData.hasDictAll, h2, r.nd], ?_, by simp [PyData.canLayAll0, h4, r.cl], ?_, by simp [PyData.shownAll, h6]⟩
    · simp only [PyData.depthAll]
      exact Nat.max_le.mpr ⟨r.dp, h3⟩
    · simp only [PyData.shownAll]
      rw [piled_cons, List.length_cons, Nat.add_mul, Nat.one_mul]
      have := r.ln
      omega
theorem tuple_len (ts : List Str) : (tupleText ts).length ≤ 3 + piled ts := by
  unfold tupleText
  rw [strLen_append, strLen_append]
  have e1 : ((("(" : String) : Str)).length = 1 := rfl
  have e3 : ((if ts.length == 1 then ",)" else ")" : String) : Str).length ≤ 2 := by
    split <;> decide
  by_cases c : ts = []
  · subst c
    decide
  · have := join_length_add ts c
    omega
theorem list_len : ∀ (ts : List Str), (listText ts).length ≤ 3 + piled ts := by
  have go : ∀ (ts : List Str) (k : Nat) (acc : Str), (textFrom k acc ts).length ≤ acc.length + piled ts := by
    intro ts
    induction ts with
    | nil =>
      intro k acc
      exact Nat.le_refl _
    | cons t r ih =>
      intro k acc
      have := ih (k + 1) (acc ++ (if k > 0 then ", " else "" : String) ++ t)
      rw [strLen_append, strLen_append] at this
      have e : ((if k > 0 then ", " else "" : String) : Str).length ≤ 2 := by split <;> decide
      show (textFrom (k + 1) (acc ++ (if k > 0 then ", " else "" : String) ++ t) r).length ≤ _
      rw [piled_cons]
      omega
  intro ts
  have h := go ts 0 "["
  show (textFrom 0 "[" ts ++ "]").length ≤ _
  rw [strLen_append]
  have e1 : ((("[" : String) : Str)).length = 1 := rfl
  have e2 : ((("]" : String) : Str)).length = 1 := rfl
  omega
theorem Rp.tup {n k m : Nat} {ds : List PyData} (h : ∀ d ∈ ds, Rp n k d) (hm : 3 + ds.length * (n + 2) ≤ m) : Rp m (k + 1) (.tuple ds) := by
  obtain ⟨h1, h2, h3, h4, h5, _⟩ := rp_showAll h
  refine ⟨by simp [PyData.showable, h1], by simp [PyData.hasDict, h2], ?_, ?_, by simp [PyData.canLay0, h4]⟩
  · simp only [PyData.depth]
    omega
  · simp only [PyData.shown]
    exact Nat.le_trans (tuple_len _) (by omega)
theorem Rp.lst {n k m : Nat} {ds : List PyData} (h : ∀ d ∈ ds, Rp n k d) (hm : 3 + ds.length * (n + 2) ≤ m) : Rp m (k + 1) (.list ds) := by
  obtain ⟨h1, h2, h3, h4, h5, _⟩ := rp_showAll h
  refine ⟨by simp [PyData.showable, h1], by simp [PyData.hasDict, h2], ?_, ?_, by simp [PyData.canLay0, h4]⟩
  · simp only [PyData.depth]
    omega
  · simp only [PyData.shown]
    exact Nat.le_trans (list_len _) (by omega)
theorem Rp.shaped {n k : Nat} {d : PyData} (h : Rp n k d) (hk : k ≤ 64) : SeqAt.shaped d = true := by
  unfold SeqAt.shaped
  rw [h.cl, decide_eq_true (Nat.le_trans h.dp hk)]
  rfl
theorem Rp.all {K : PySem.W.Frag} {H : Hp} {Q : VK} {n k : Nat} {a : Addr} {d : PyData} (h : Rp n k d) (hd : Dp K H (.ref a) d) (hn : n ≤ sizeLine) (hk : k ≤ 40) (q : Q (.str d.shown) H) : rRepr K [.ref a] H Q :=
  ⟨a, d, rfl, hd, h.sh, h.nd, Nat.le_trans h.dp hk, Nat.le_trans h.ln hn, q⟩
theorem dpAll_ints {K : PySem.W.Frag} {H : Hp} : ∀ cs : List Int, DpAll K H (cs.map V.int) (cs.map PyData.int)
  | [] => .nil
  | c :: r => .cons (.int c) (dpAll_ints r)
theorem eqvAll_ints : ∀ a b : List Int, PyData.eqvAll (a.map PyData.int) (b.map PyData.int) = decide (a = b)
  | [], [] => rfl
  | [], _ :: _ => rfl
  | _ :: _, [] => rfl
  | x :: a, y :: b => by
    simp only [List.map_cons, PyData.eqvAll, PyData.eqv, eqvAll_ints a b]
    by_cases e1 : x = y <;> by_cases e2 : a = b <;> simp [e1, e2]
mutual
/-- only Nones, ints, lists and tuples: no two unlike ones are equal -/
def NoBool : PyData → Bool
  | .none => true
  | .int _ => true
  | .tuple xs => NoBoolAll xs
  | .list xs => NoBoolAll xs
  | _ => false
def NoBoolAll : List PyData → Bool
  | [] => true
  | x :: xs => NoBool x && NoBoolAll xs
end
mutual
theorem eqv_iff : ∀ d e : PyData, NoBool d = true → (PyData.eqv d e = true ↔ (d = e ∨ (NoBool e = false ∧ PyData.eqv d e = true)))
  | .none, e, _ => by cases e <;> simp [PyData.eqv, NoBool]
  | .int i, e, _ => by cases e <;> simp [PyData.eqv, NoBool]
  | .tuple xs, e, h => by
    have h : NoBoolAll xs = true := by simpa [NoBool] using h
    cases e with
    | tuple ys =>
      have := eqvAll_iff xs ys h
      simp only [PyData.eqv, PyData.tuple.injEq, NoBool]
      exact this
    | _ => simp [PyData.eqv]
  | .list xs, e, h => by
    have h : NoBoolAll xs = true := by simpa [NoBool] using h
    cases e with
    | list ys =>
      have := eqvAll_iff xs ys h
      simp only [PyData.eqv, PyData.list.injEq, NoBool]
      exact this
    | _ => simp [PyData.eqv]
  | .bool _, _, h => by simp [NoBool] at h
  | .str _, _, h => by simp [NoBool] at h
  | .dict _, _, h => by simp [NoBool] at h
theorem eqvAll_iff : ∀ xs ys : List PyData, NoBoolAll xs = true → (PyData.eqvAll xs ys = true ↔ (xs = ys ∨ (NoBoolAll ys = false ∧ PyData.eqvAll xs ys = true)))
  | [], [], _ => by simp [PyData.eqvAll]
  | [], _ :: _, _ => by simp [PyData.eqvAll]
  | _ :: _, [], _ => by simp [PyData.eqvAll]
  | x :: xs, y :: ys, h => by
    have h : NoBool x = true ∧ NoBoolAll xs = true := by simpa [NoBoolAll] using h
    have i1 := eqv_iff x y h.1
    have i2 := eqvAll_iff xs ys h.2
    simp only [PyData.eqvAll, NoBoolAll, Bool.and_eq_true, List.cons.injEq, Bool.and_eq_false_iff]
    constructor
    · rintro ⟨a, b⟩
      rcases i1.mp a with e1 | e1
      · rcases i2.mp b with e2 | e2
        · exact .inl ⟨e1, e2⟩
        · exact .inr ⟨.inr e2.1, a, b⟩
      · exact .inr ⟨.inl e1.1, a, b⟩
    · rintro (⟨e1, e2⟩ | ⟨_, h⟩)
      · exact ⟨i1.mpr (.inl e1), i2.mpr (.inl e2)⟩
      · exact h
end
theorem eqv_eq {d e : PyData} (h : NoBool d = true) (h' : NoBool e = true) : PyData.eqv d e = true ↔ d = e := by
  have := eqv_iff d e h
  rw [h'] at this
  simpa using this
theorem noBool_ints : ∀ cs : List Int, NoBoolAll (cs.map PyData.int) = true
  | [] => rfl
  | c :: r => by
    simp only [List.map_cons, NoBoolAll, NoBool, noBool_ints r, Bool.and_self]
/-- a stripe as data -/
def strD (m : Nat) (cs : List Int) (r : Int) : PyData := .tuple [.int m, .tuple (cs.map PyData.int), .int r]
theorem strD_noBool (m : Nat) (cs : List Int) (r : Int) : NoBool (strD m cs r) = true := by
  simp [strD, NoBool, NoBoolAll, noBool_ints]
theorem strD_inj {m n : Nat} {cs ds : List Int} {r s : Int} : strD m cs r = strD n ds s ↔ m = n ∧ cs = ds ∧ r = s := by
  have inj : ∀ a b : List Int, a.map PyData.int = b.map PyData.int ↔ a = b := fun a b => ⟨fun h => (List.map_inj_right (fun _ _ e => PyData.int.inj e)).mp h, fun h => by rw [h]⟩
  simp only [strD, PyData.tuple.injEq, List.cons.injEq, PyData.int.injEq, inj]
  constructor
  · rintro ⟨h1, h2, h3, _⟩
    exact ⟨Int.ofNat.inj h1, h2, h3⟩
  · rintro ⟨rfl, rfl, rfl⟩
    exact ⟨rfl, rfl, rfl, trivial⟩
theorem rp_ints {cs : List Int} (hl : cs.length ≤ 4) (hb : ∀ c ∈ cs, c.natAbs < 2 ^ 1900) : Rp 7700 1 (.tuple (cs.map PyData.int)) := by
  refine Rp.tup (n := 1921) (k := 0) (fun d hd => ?_) ?_
  · obtain ⟨c, hc, rfl⟩ := List.mem_map.mp hd
    exact Rp.int (hb c hc)
  · rw [List.length_map]
    omega
theorem rp_str {m : Nat} {cs : List Int} {r : Int} (hl : cs.length ≤ 4) (hm : m < 2 ^ 1900) (hb : ∀ c ∈ cs, c.natAbs < 2 ^ 1900) (hr : r.natAbs < 2 ^ 1900) : Rp 24000 2 (strD m cs r) := by
  unfold strD
  refine Rp.tup (n := 7700) (k := 1) (fun d hd => ?_) (by show 3 + 3 * 7702 ≤ 24000; decide)
  simp only [List.mem_cons, List.not_mem_nil, or_false] at hd
  rcases hd with rfl | rfl | rfl
  · exact (Rp.int (by omega)).mono (by decide) (by decide)
  · exact rp_ints hl hb
  · exact (Rp.int hr).mono (by decide) (by decide)
end Kw
namespace KL
open PySem PySem.Spec PyProof.Rows L2 RZ StX SrtO Kw KM
def topS (i : Nat) : Stmt := PySem.Challenge.pw_slantpanes_k05_normal_forms_and_same_cel.main.body.getD i (.Pass ⟨0, 0, 0, 0⟩)
abbrev s_is_integer : Stmt := topS 6
abbrev N_is_integer : List Str := ["thing"]
theorem sc_is_integer : FnScope N_is_integer ["thing"] (defScope s_is_integer) := ⟨rfl, rfl, rfl, by decide +kernel, rfl, by decide +kernel, by decide +kernel⟩
abbrev s_primes_of : Stmt := topS 7
abbrev N_primes_of : List Str := ["number", "p"]
theorem sc_primes_of : FnScope N_primes_of ["number"] (defScope s_primes_of) := ⟨rfl, rfl, rfl, by decide +kernel, rfl, by decide +kernel, by decide +kernel⟩
abbrev s_part_at : Stmt := topS 8
abbrev N_part_at : List Str := ["number", "p", "part"]
theorem sc_part_at : FnScope N_part_at ["number", "p"] (defScope s_part_at) := ⟨rfl, rfl, rfl, by decide +kernel, rfl, by decide +kernel, by decide +kernel⟩
abbrev s_common_divisor : Stmt := topS 9
abbrev N_common_divisor : List Str := ["number", "others", "divisor", "other"]
theorem sc_common_divisor : FnScope N_common_divisor ["number", "others"] (defScope s_common_divisor) := ⟨rfl, rfl, rfl, by decide +kernel, rfl, by decide +kernel, by decide +kernel⟩
abbrev s_inverse : Stmt := topS 10
abbrev N_inverse : List Str := ["number", "modulus", "before", "now", "factor_before", "factor", "times"]
theorem sc_inverse : FnScope N_inverse ["number", "modulus"] (defScope s_inverse) := ⟨rfl, rfl, rfl, by decide +kernel, rfl, by decide +kernel, by decide +kernel⟩
abbrev s_one_at : Stmt := topS 11
abbrev N_one_at : List Str := ["number", "p", "part", "rest"]
theorem sc_one_at : FnScope N_one_at ["number", "p"] (defScope s_one_at) := ⟨rfl, rfl, rfl, by decide +kernel, rfl, by decide +kernel, by decide +kernel⟩
abbrev s_is_period : Stmt := topS 15
abbrev N_is_period : List Str := ["thing", "rest", "multiplied", "p"]
theorem sc_is_period : FnScope N_is_period ["thing"] (defScope s_is_period) := ⟨rfl, rfl, rfl, by decide +kernel, rfl, by decide +kernel, by decide +kernel⟩
abbrev s_is_cell : Stmt := topS 16
abbrev N_is_cell : List Str := ["thing", "number"]
theorem sc_is_cell : FnScope N_is_cell ["thing"] (defScope s_is_cell) := ⟨rfl, rfl, rfl, by decide +kernel, rfl, by decide +kernel, by decide +kernel⟩
abbrev s_is_stripe : Stmt := topS 17
abbrev N_is_stripe : List Str := ["thing", "m", "c", "r", "number"]
theorem sc_is_stripe : FnScope N_is_stripe ["thing"] (defScope s_is_stripe) := ⟨rfl, rfl, rfl, by decide +kernel, rfl, by decide +kernel, by decide +kernel⟩
abbrev s_normal_stripe : Stmt := topS 18
abbrev N_normal_stripe : List Str := ["stripe"]
theorem sc_normal_stripe : FnScope N_normal_stripe ["stripe"] (defScope s_normal_stripe) := ⟨rfl, rfl, rfl, by decide +kernel, rfl, by decide +kernel, by decide +kernel⟩
abbrev s_are_same : Stmt := topS 19
abbrev N_are_same : List Str := ["one", "other"]
theorem sc_are_same : FnScope N_are_same ["one", "other"] (defScope s_are_same) := ⟨rfl, rfl, rfl, by decide +kernel, rfl, by decide +kernel, by decide +kernel⟩
abbrev s_by_period : Stmt := topS 20
abbrev N_by_period : List Str := ["m", "c", "r", "number"]
theorem sc_by_period : FnScope N_by_period ["m", "c", "r"] (defScope s_by_period) := ⟨rfl, rfl, rfl, by decide +kernel, rfl, by decide +kernel, by decide +kernel⟩
abbrev s_normal_form : Stmt := topS 21
abbrev N_normal_form : List Str := ["stripe", "m", "c", "r", "factor", "number"]
theorem sc_normal_form : FnScope N_normal_form ["stripe"] (defScope s_normal_form) := ⟨rfl, rfl, rfl, by decide +kernel, rfl, by decide +kernel, by decide +kernel⟩
abbrev s_normal_factor : Stmt := topS 22
abbrev N_normal_factor : List Str := ["m", "c", "p"]
theorem sc_normal_factor : FnScope N_normal_factor ["m", "c"] (defScope s_normal_factor) := ⟨rfl, rfl, rfl, by decide +kernel, rfl, by decide +kernel, by decide +kernel⟩
abbrev s_first_place : Stmt := topS 23
abbrev N_first_place : List Str := ["c", "p", "place", "number"]
theorem sc_first_place : FnScope N_first_place ["c", "p"] (defScope s_first_place) := ⟨rfl, rfl, rfl, by decide +kernel, rfl, by decide +kernel, by decide +kernel⟩
abbrev s_check_stripe : Stmt := topS 24
abbrev N_check_stripe : List Str := ["thing"]
theorem sc_check_stripe : FnScope N_check_stripe ["thing"] (defScope s_check_stripe) := ⟨rfl, rfl, rfl, by decide +kernel, rfl, by decide +kernel, by decide +kernel⟩
abbrev s__law_deck : Stmt := topS 26
abbrev N__law_deck : List Str := ["_law_script", "_law_mixed", "_law_cell"]
theorem sc__law_deck : FnScope N__law_deck ["_law_script"] (defScope s__law_deck) := ⟨rfl, rfl, rfl, by decide +kernel, rfl, by decide +kernel, by decide +kernel⟩
abbrev s__law_draw : Stmt := topS 27
abbrev N__law_draw : List Str := ["_law_deck_here", "_law_many", "_law_number", "_law_cell"]
theorem sc__law_draw : FnScope N__law_draw ["_law_deck_here", "_law_many"] (defScope s__law_draw) := ⟨rfl, rfl, rfl, by decide +kernel, rfl, by decide +kernel, by decide +kernel⟩
abbrev s__law_pick : Stmt := topS 28
abbrev N__law_pick : List Str := ["_law_deck_here", "_law_some"]
theorem sc__law_pick : FnScope N__law_pick ["_law_deck_here", "_law_some"] (defScope s__law_pick) := ⟨rfl, rfl, rfl, by decide +kernel, rfl, by decide +kernel, by decide +kernel⟩
abbrev s__law_great : Stmt := topS 29
abbrev N__law_great : List Str := ["_law_deck_here", "_law_top", "_law_found", "_law_room"]
theorem sc__law_great : FnScope N__law_great ["_law_deck_here", "_law_top"] (defScope s__law_great) := ⟨rfl, rfl, rfl, by decide +kernel, rfl, by decide +kernel, by decide +kernel⟩
abbrev s__law_powers : Stmt := topS 30
abbrev N__law_powers : List Str := ["_law_deck_here", "_law_top", "_law_most", "_law_some", "_law_product_here", "_law_rest", "_law_found", "_law_way", "_law_turn", "_law_p", "_law_pairs", "_law_q"]
theorem sc__law_powers : FnScope N__law_powers ["_law_deck_here", "_law_top", "_law_most"] (defScope s__law_powers) := ⟨rfl, rfl, rfl, by decide +kernel, rfl, by decide +kernel, by decide +kernel⟩
abbrev s__law_product : Stmt := topS 31
abbrev N__law_product : List Str := ["_law_some", "_law_found", "_law_x"]
theorem sc__law_product : FnScope N__law_product ["_law_some"] (defScope s__law_product) := ⟨rfl, rfl, rfl, by decide +kernel, rfl, by decide +kernel, by decide +kernel⟩
abbrev s__law_numbers : Stmt := topS 32
abbrev N__law_numbers : List Str := ["_law_deck_here", "_law_powers_here", "_law_m", "_law_d", "_law_found", "_law_at", "_law_way", "_law_number", "_law_p", "_law_q", "_law_x"]
theorem sc__law_numbers : FnScope N__law_numbers ["_law_deck_here", "_law_powers_here", "_law_m", "_law_d"] (defScope s__law_numbers) := ⟨rfl, rfl, rfl, by decide +kernel, rfl, by decide +kernel, by decide +kernel⟩
abbrev s__law_unit : Stmt := topS 33
abbrev N__law_unit : List Str := ["_law_deck_here", "_law_powers_here", "_law_m", "_law_number", "_law_p", "_law_q"]
theorem sc__law_unit : FnScope N__law_unit ["_law_deck_here", "_law_powers_here", "_law_m"] (defScope s__law_unit) := ⟨rfl, rfl, rfl, by decide +kernel, rfl, by decide +kernel, by decide +kernel⟩
abbrev s__law_are_multiples : Stmt := topS 34
abbrev N__law_are_multiples : List Str := ["_law_m", "_law_one", "_law_other", "_law_i", "_law_x", "_law_j"]
theorem sc__law_are_multiples : FnScope N__law_are_multiples ["_law_m", "_law_one", "_law_other"] (defScope s__law_are_multiples) := ⟨rfl, rfl, rfl, by decide +kernel, rfl, by decide +kernel, by decide +kernel⟩
abbrev s__law_is_normal : Stmt := topS 35
abbrev N__law_is_normal : List Str := ["_law_powers_here", "_law_m", "_law_stripe", "_law_x", "_law_p", "_law_q", "_law_firsts"]
theorem sc__law_is_normal : FnScope N__law_is_normal ["_law_powers_here", "_law_m", "_law_stripe"] (defScope s__law_is_normal) := ⟨rfl, rfl, rfl, by decide +kernel, rfl, by decide +kernel, by decide +kernel⟩
abbrev s__law_row : Stmt := topS 36
abbrev N__law_row : List Str := ["_law_stripe"]
theorem sc__law_row : FnScope N__law_row ["_law_stripe"] (defScope s__law_row) := ⟨rfl, rfl, rfl, by decide +kernel, rfl, by decide +kernel, by decide +kernel⟩
abbrev s__law_by : Stmt := topS 37
abbrev N__law_by : List Str := ["_law_stripe", "_law_u", "_law_m", "_law_c", "_law_r", "_law_a"]
theorem sc__law_by : FnScope N__law_by ["_law_stripe", "_law_u"] (defScope s__law_by) := ⟨rfl, rfl, rfl, by decide +kernel, rfl, by decide +kernel, by decide +kernel⟩
abbrev s__law_is_made_normal : Stmt := topS 38
abbrev N__law_is_made_normal : List Str := ["_law_powers_here", "_law_stripe", "_law_m", "_law_told"]
theorem sc__law_is_made_normal : FnScope N__law_is_made_normal ["_law_powers_here", "_law_stripe"] (defScope s__law_is_made_normal) := ⟨rfl, rfl, rfl, by decide +kernel, rfl, by decide +kernel, by decide +kernel⟩
abbrev s__law_changed : Stmt := topS 39
abbrev N__law_changed : List Str := ["_law_deck_here", "_law_powers_here", "_law_stripe", "_law_m", "_law_c", "_law_r", "_law_parts", "_law_way", "_law_at", "_law_more", "_law_p", "_law_q"]
theorem sc__law_changed : FnScope N__law_changed ["_law_deck_here", "_law_powers_here", "_law_stripe"] (defScope s__law_changed) := ⟨rfl, rfl, rfl, by decide +kernel, rfl, by decide +kernel, by decide +kernel⟩
abbrev s__law_is_due : Stmt := topS 40
abbrev N__law_is_due : List Str := ["_law_one", "_law_other", "_law_due", "_law_told"]
theorem sc__law_is_due : FnScope N__law_is_due ["_law_one", "_law_other", "_law_due"] (defScope s__law_is_due) := ⟨rfl, rfl, rfl, by decide +kernel, rfl, by decide +kernel, by decide +kernel⟩
abbrev s__law_are_none : Stmt := topS 41
abbrev N__law_are_none : List Str := ["_law_powers_here", "_law_stripe", "_law_p", "_law_q", "_law_a"]
theorem sc__law_are_none : FnScope N__law_are_none ["_law_powers_here", "_law_stripe"] (defScope s__law_are_none) := ⟨rfl, rfl, rfl, by decide +kernel, rfl, by decide +kernel, by decide +kernel⟩
abbrev s_law : Stmt := topS 42
abbrev N_law : List Str := ["_law_script", "_law_deck_here", "_law_powers_here", "_law_d", "_law_m", "_law_r", "_law_one", "_law_two", "_law_ways", "_law_way", "_law_turn", "_law_base", "_law_near", "_law_due", "_law_p", "_law_q", "_law_n", "_law_wide", "_law_a"]
theorem sc_law : FnScope N_law ["_law_script"] (defScope s_law) := ⟨rfl, rfl, rfl, by decide +kernel, rfl, by decide +kernel, by decide +kernel⟩
def C_PRIMES : List Int := [2, 3, 5, 7, 11, 13, 17, 19, 23, 29]
def gkb_normal_stripe_0_stripe : List Value → List Value → List Value := fun (us ws : List Value) => match us, ws with | [], [k0] => [k0] | _, _ => []
def gkb_normal_stripe_0_stripeV : List V → List V → List V := fun (us ws : List V) => match us, ws with | [], [k0] => [k0] | _, _ => []
def gkb_are_same_0_other_one : List Value → List Value → List Value := fun (us ws : List Value) => match us, ws with | [], [k0, k1] => [k1, k0] | _, _ => []
def gkb_are_same_0_other_oneV : List V → List V → List V := fun (us ws : List V) => match us, ws with | [], [k0, k1] => [k1, k0] | _, _ => []
/-- what the top has made -/
structure Txt (K : PySem.W.Frag) (mg : Str → Option Value) where
  a_is_integer : Addr
  d_is_integer : FuncData
  F_is_integer : Fun K "is_integer" "is_integer" s_is_integer a_is_integer d_is_integer
  m_is_integer : mg "is_integer" = some (.ref a_is_integer)
  b_is_integer : Binds K d_is_integer ["thing"] []
  a_primes_of : Addr
  d_primes_of : FuncData
  F_primes_of : Fun K "primes_of" "primes_of" s_primes_of a_primes_of d_primes_of
  m_primes_of : mg "primes_of" = some (.ref a_primes_of)
  b_primes_of : Binds K d_primes_of ["number"] []
  a_part_at : Addr
  d_part_at : FuncData
  F_part_at : Fun K "part_at" "part_at" s_part_at a_part_at d_part_at
  m_part_at : mg "part_at" = some (.ref a_part_at)
  b_part_at : Binds K d_part_at ["number", "p"] []
  a_common_divisor : Addr
  d_common_divisor : FuncData
  F_common_divisor : Fun K "common_divisor" "common_divisor" s_common_divisor a_common_divisor d_common_divisor
  m_common_divisor : mg "common_divisor" = some (.ref a_common_divisor)
  b_common_divisor : Binds K d_common_divisor ["number", "others"] []
  a_inverse : Addr
  d_inverse : FuncData
  F_inverse : Fun K "inverse" "inverse" s_inverse a_inverse d_inverse
  m_inverse : mg "inverse" = some (.ref a_inverse)
  b_inverse : Binds K d_inverse ["number", "modulus"] []
  a_one_at : Addr
  d_one_at : FuncData
  F_one_at : Fun K "one_at" "one_at" s_one_at a_one_at d_one_at
  m_one_at : mg "one_at" = some (.ref a_one_at)
  b_one_at : Binds K d_one_at ["number", "p"] []
  a_is_period : Addr
  d_is_period : FuncData
  F_is_period : Fun K "is_period" "is_period" s_is_period a_is_period d_is_period
  m_is_period : mg "is_period" = some (.ref a_is_period)
  b_is_period : Binds K d_is_period ["thing"] []
  a_is_cell : Addr
  d_is_cell : FuncData
  F_is_cell : Fun K "is_cell" "is_cell" s_is_cell a_is_cell d_is_cell
  m_is_cell : mg "is_cell" = some (.ref a_is_cell)
  b_is_cell : Binds K d_is_cell ["thing"] []
  a_is_stripe : Addr
  d_is_stripe : FuncData
  F_is_stripe : Fun K "is_stripe" "is_stripe" s_is_stripe a_is_stripe d_is_stripe
  m_is_stripe : mg "is_stripe" = some (.ref a_is_stripe)
  b_is_stripe : Binds K d_is_stripe ["thing"] []
  a_normal_stripe : Addr
  d_normal_stripe : FuncData
  F_normal_stripe : Fun K "normal_stripe" "normal_stripe" s_normal_stripe a_normal_stripe d_normal_stripe
  m_normal_stripe : mg "normal_stripe" = some (.ref a_normal_stripe)
  b_normal_stripe : Binds K d_normal_stripe ["stripe"] []
  a_are_same : Addr
  d_are_same : FuncData
  F_are_same : Fun K "are_same" "are_same" s_are_same a_are_same d_are_same
  m_are_same : mg "are_same" = some (.ref a_are_same)
  b_are_same : Binds K d_are_same ["one", "other"] []
  a_by_period : Addr
  d_by_period : FuncData
  F_by_period : Fun K "by_period" "by_period" s_by_period a_by_period d_by_period
  m_by_period : mg "by_period" = some (.ref a_by_period)
  b_by_period : Binds K d_by_period ["m", "c", "r"] []
  a_normal_form : Addr
  d_normal_form : FuncData
  F_normal_form : Fun K "normal_form" "normal_form" s_normal_form a_normal_form d_normal_form
  m_normal_form : mg "normal_form" = some (.ref a_normal_form)
  b_normal_form : Binds K d_normal_form ["stripe"] []
  a_normal_factor : Addr
  d_normal_factor : FuncData
  F_normal_factor : Fun K "normal_factor" "normal_factor" s_normal_factor a_normal_factor d_normal_factor
  m_normal_factor : mg "normal_factor" = some (.ref a_normal_factor)
  b_normal_factor : Binds K d_normal_factor ["m", "c"] []
  a_first_place : Addr
  d_first_place : FuncData
  F_first_place : Fun K "first_place" "first_place" s_first_place a_first_place d_first_place
  m_first_place : mg "first_place" = some (.ref a_first_place)
  b_first_place : Binds K d_first_place ["c", "p"] []
  a_check_stripe : Addr
  d_check_stripe : FuncData
  F_check_stripe : Fun K "check_stripe" "check_stripe" s_check_stripe a_check_stripe d_check_stripe
  m_check_stripe : mg "check_stripe" = some (.ref a_check_stripe)
  b_check_stripe : Binds K d_check_stripe ["thing"] []
  a__law_deck : Addr
  d__law_deck : FuncData
  F__law_deck : Fun K "_law_deck" "_law_deck" s__law_deck a__law_deck d__law_deck
  m__law_deck : mg "_law_deck" = some (.ref a__law_deck)
  b__law_deck : Binds K d__law_deck ["_law_script"] []
  a__law_draw : Addr
  d__law_draw : FuncData
  F__law_draw : Fun K "_law_draw" "_law_draw" s__law_draw a__law_draw d__law_draw
  m__law_draw : mg "_law_draw" = some (.ref a__law_draw)
  b__law_draw : Binds K d__law_draw ["_law_deck_here", "_law_many"] []
  a__law_pick : Addr
  d__law_pick : FuncData
  F__law_pick : Fun K "_law_pick" "_law_pick" s__law_pick a__law_pick d__law_pick
  m__law_pick : mg "_law_pick" = some (.ref a__law_pick)
  b__law_pick : Binds K d__law_pick ["_law_deck_here", "_law_some"] []
  a__law_great : Addr
  d__law_great : FuncData
  F__law_great : Fun K "_law_great" "_law_great" s__law_great a__law_great d__law_great
  m__law_great : mg "_law_great" = some (.ref a__law_great)
  b__law_great : Binds K d__law_great ["_law_deck_here", "_law_top"] []
  a__law_powers : Addr
  d__law_powers : FuncData
  F__law_powers : Fun K "_law_powers" "_law_powers" s__law_powers a__law_powers d__law_powers
  m__law_powers : mg "_law_powers" = some (.ref a__law_powers)
  b__law_powers : Binds K d__law_powers ["_law_deck_here", "_law_top", "_law_most"] []
  a__law_product : Addr
  d__law_product : FuncData
  F__law_product : Fun K "_law_product" "_law_product" s__law_product a__law_product d__law_product
  m__law_product : mg "_law_product" = some (.ref a__law_product)
  b__law_product : Binds K d__law_product ["_law_some"] []
  a__law_numbers : Addr
  d__law_numbers : FuncData
  F__law_numbers : Fun K "_law_numbers" "_law_numbers" s__law_numbers a__law_numbers d__law_numbers
  m__law_numbers : mg "_law_numbers" = some (.ref a__law_numbers)
  b__law_numbers : Binds K d__law_numbers ["_law_deck_here", "_law_powers_here", "_law_m", "_law_d"] []
  a__law_unit : Addr
  d__law_unit : FuncData
  F__law_unit : Fun K "_law_unit" "_law_unit" s__law_unit a__law_unit d__law_unit
  m__law_unit : mg "_law_unit" = some (.ref a__law_unit)
  b__law_unit : Binds K d__law_unit ["_law_deck_here", "_law_powers_here", "_law_m"] []
  a__law_are_multiples : Addr
  d__law_are_multiples : FuncData
  F__law_are_multiples : Fun K "_law_are_multiples" "_law_are_multiples" s__law_are_multiples a__law_are_multiples d__law_are_multiples
  m__law_are_multiples : mg "_law_are_multiples" = some (.ref a__law_are_multiples)
  b__law_are_multiples : Binds K d__law_are_multiples ["_law_m", "_law_one", "_law_other"] []
  a__law_is_normal : Addr
  d__law_is_normal : FuncData
  F__law_is_normal : Fun K "_law_is_normal" "_law_is_normal" s__law_is_normal a__law_is_normal d__law_is_normal
  m__law_is_normal : mg "_law_is_normal" = some (.ref a__law_is_normal)
  b__law_is_normal : Binds K d__law_is_normal ["_law_powers_here", "_law_m", "_law_stripe"] []
  a__law_row : Addr
  d__law_row : FuncData
  F__law_row : Fun K "_law_row" "_law_row" s__law_row a__law_row d__law_row
  m__law_row : mg "_law_row" = some (.ref a__law_row)
  b__law_row : Binds K d__law_row ["_law_stripe"] []
  a__law_by : Addr
  d__law_by : FuncData
  F__law_by : Fun K "_law_by" "_law_by" s__law_by a__law_by d__law_by
  m__law_by : mg "_law_by" = some (.ref a__law_by)
  b__law_by : Binds K d__law_by ["_law_stripe", "_law_u"] []
  a__law_is_made_normal : Addr
  d__law_is_made_normal : FuncData
  F__law_is_made_normal : Fun K "_law_is_made_normal" "_law_is_made_normal" s__law_is_made_normal a__law_is_made_normal d__law_is_made_normal
  m__law_is_made_normal : mg "_law_is_made_normal" = some (.ref a__law_is_made_normal)
  b__law_is_made_normal : Binds K d__law_is_made_normal ["_law_powers_here", "_law_stripe"] []
  a__law_changed : Addr
  d__law_changed : FuncData
  F__law_changed : Fun K "_law_changed" "_law_changed" s__law_changed a__law_changed d__law_changed
  m__law_changed : mg "_law_changed" = some (.ref a__law_changed)
  b__law_changed : Binds K d__law_changed ["_law_deck_here", "_law_powers_here", "_law_stripe"] []
  a__law_is_due : Addr
  d__law_is_due : FuncData
  F__law_is_due : Fun K "_law_is_due" "_law_is_due" s__law_is_due a__law_is_due d__law_is_due
  m__law_is_due : mg "_law_is_due" = some (.ref a__law_is_due)
  b__law_is_due : Binds K d__law_is_due ["_law_one", "_law_other", "_law_due"] []
  a__law_are_none : Addr
  d__law_are_none : FuncData
  F__law_are_none : Fun K "_law_are_none" "_law_are_none" s__law_are_none a__law_are_none d__law_are_none
  m__law_are_none : mg "_law_are_none" = some (.ref a__law_are_none)
  b__law_are_none : Binds K d__law_are_none ["_law_powers_here", "_law_stripe"] []
  a_law : Addr
  d_law : FuncData
  F_law : Fun K "law" "law" s_law a_law d_law
  m_law : mg "law" = some (.ref a_law)
  b_law : Binds K d_law ["_law_script"] []
  n_all : mg "all" = none
  n_bool : mg "bool" = none
  n_enumerate : mg "enumerate" = none
  n_int : mg "int" = none
  n_isinstance : mg "isinstance" = none
  n_len : mg "len" = none
  n_list : mg "list" = none
  n_max : mg "max" = none
  n_range : mg "range" = none
  n_repr : mg "repr" = none
  n_sorted : mg "sorted" = none
  n_sum : mg "sum" = none
  n_tuple : mg "tuple" = none
  kb_normal_stripe_0_stripe : KBinds K d_normal_stripe ["stripe"] ["stripe"] gkb_normal_stripe_0_stripe gkb_normal_stripe_0_stripeV
  kb_are_same_0_other_one : KBinds K d_are_same ["one", "other"] ["other", "one"] gkb_are_same_0_other_one gkb_are_same_0_other_oneV
  m_gcd : mg "gcd" = some (.builtin "math.gcd")
  a_PRIMES : Addr
  m_PRIMES : mg "PRIMES" = some (.ref a_PRIMES)
  t_PRIMES : ∀ H : Hp, SqT K H a_PRIMES (C_PRIMES.map V.int)
  m_MOST_BREADTH : ∃ t, mg "MOST_BREADTH" = some (.int 3 t)
  m_MOST_PRIMES_MULTIPLIED : ∃ t, mg "MOST_PRIMES_MULTIPLIED" = some (.int 1000 t)
section
variable {K : PySem.W.Frag} {X : Cx} {x : Str} {pos : Pos}
theorem g_PRIMES (T : Txt X.K X.mg) (hg : Gl X "PRIMES") : PE X (.Name "PRIMES" pos) (tC (.ref T.a_PRIMES)) := pe_glob hg T.m_PRIMES rfl
theorem g_MOST_BREADTH (T : Txt X.K X.mg) (hg : Gl X "MOST_BREADTH") : PE X (.Name "MOST_BREADTH" pos) (tC (.int 3)) := by
  obtain ⟨t, e⟩ := T.m_MOST_BREADTH
  exact pe_glob hg e ⟨t, rfl⟩
theorem g_MOST_PRIMES_MULTIPLIED (T : Txt X.K X.mg) (hg : Gl X "MOST_PRIMES_MULTIPLIED") : PE X (.Name "MOST_PRIMES_MULTIPLIED" pos) (tC (.int 1000)) := by
  obtain ⟨t, e⟩ := T.m_MOST_PRIMES_MULTIPLIED
  exact pe_glob hg e ⟨t, rfl⟩
theorem v_int (T : Txt X.K X.mg) (hg : Gl X "int") : PE X (.Name "int" pos) (tC (.ty "int")) := pe_bltn hg T.n_int (by decide +kernel) rfl
theorem v_bool (T : Txt X.K X.mg) (hg : Gl X "bool") : PE X (.Name "bool" pos) (tC (.ty "bool")) := pe_bltn hg T.n_bool (by decide +kernel) rfl
theorem v_tuple (T : Txt X.K X.mg) (hg : Gl X "tuple") : PE X (.Name "tuple" pos) (tC (.ty "tuple")) := pe_bltn hg T.n_tuple (by decide +kernel) rfl
theorem v_list (T : Txt X.K X.mg) (hg : Gl X "list") : PE X (.Name "list" pos) (tC (.ty "list")) := pe_bltn hg T.n_list (by decide +kernel) rfl
end
end KL
namespace KL
open PySem PySem.Spec PyProof.Rows L2 RZ StX SrtO Kw KM
theorem lc_done {H1 H : Hp} {D : Addr} {xs : Nat → List V} {i : Nat} {ys : List V} (h : Lc H1 D xs i H) (e : xs i = ys) : Same H1 H ∧ H D = some (.lst ys) := ⟨h.1, e ▸ h.2⟩
theorem ix_tupK {X : Cx} {K : PySem.W.Frag} (hK : X.K = K := by rfl) : IxR X (rIxT K) := hK ▸ ix_tup
theorem ix_listK {X : Cx} {K : PySem.W.Frag} (hK : X.K = K := by rfl) : IxR X (rIxL K) := hK ▸ ix_list
theorem op_catAK {X : Cx} {K : PySem.W.Frag} (hK : X.K = K := by rfl) : OpR X (binaryOp .Add) (rCatA K) := hK ▸ op_catA
theorem sl_tupAK {X : Cx} {K : PySem.W.Frag} (hK : X.K = K := by rfl) : SlR X (rSlA K) := hK ▸ sl_tupA
end KL
namespace KL
open PySem PySem.Spec PyProof.Rows L2 RZ StX SrtO Kw
section
variable {P : Program} {w : World} {K : PySem.W.Frag} {mg : Str → Option Value} {base : Heap}

/-! ### is_integer, of ints alone -/
def sp_is_integer : Sp := fun vs H Q _ => ∃ i : Int, vs = [.int i] ∧ Q (.bl true) H
theorem ok_is_integer (T : Txt K mg) : FnOk P w K mg base CX0 1 T.a_is_integer T.d_is_integer ["thing"] sp_is_integer := by
  refine T.F_is_integer.ok sc_is_integer (fun vs H Q E h => ?_) (fun cdv A outer s H vs Q E hr h => ?_)
  · obtain ⟨i, rfl, _⟩ := h
    rfl
  obtain ⟨i, rfl, q⟩ := h
  refine ⟨_, pss_one (ps_ret (pe_and (pe_callB call_isi (by rfl) T.n_isinstance (by decide +kernel) (pa_cons (pv 0) (pa_cons (v_int T (by rfl)) pa_nil))) (pe_one (pe_not (pe_callB call_isi (by rfl) T.n_isinstance (by decide +kernel) (pa_cons (pv 0) (pa_cons (v_bool T (by rfl)) pa_nil))))))), ?_⟩
  refine ⟨_, rfl, _, _, _, _, _, rfl, ClsV.ty _, .base (.int i), kit_ty (r := true) (by decide +kernel), true, rfl, iteT ?_⟩
  exact ⟨_, rfl, _, _, _, _, _, rfl, ClsV.ty _, .base (.int i), kit_ty (r := false) (by decide +kernel), false, rfl, q⟩
theorem cl_is_integer {X : Cx} {p pos : Pos} {e : Expr} {es : List Expr} {t : TA} (T : Txt K mg) (hr : Room 1 X.A) (ha : PA X (e :: es) t) (hg : Gl X "is_integer" := by rfl)
    (he : starEach (e :: es) X.env = (false, eval e X.env) :: starEach es X.env := by rfl) (hpl : (backTo pos (starEach es X.env)).any (·.1) = false := by rfl) (hK : X.K = K := by rfl) (hmg : X.mg = mg := by rfl) :
    PE X (.Call (.Name "is_integer" p) (e :: es) [] pos) (tCall sp_is_integer [] E0 t) := by
  subst hK hmg
  exact pe_call (ok_is_integer T) hr hg T.m_is_integer T.F_is_integer.kp T.b_is_integer .nil pass0 ha (by decide) he hpl
/-! ### primes_of -/
def primesOf (n : Int) : List Int := C_PRIMES.filter fun p => decide (n.fmod p = 0)
def sp_primes_of : Sp := fun vs H Q _ => ∃ n : Int, vs = [.int n] ∧ ∀ p H', Same H H' → H p = none → H' p = some (.lst ((primesOf n).map V.int)) → Q (.ref p) H'
theorem PR_pos : ∀ p ∈ C_PRIMES, (2 : Int) ≤ p ∧ p ≤ 29 := by decide
def upto (n : Int) (i : Nat) : List V := ((C_PRIMES.take i).filter fun p => decide (n.fmod p = 0)).map V.int
theorem upto_next {n : Int} {i : Nat} {p : Int} (h : C_PRIMES[i]? = some p) : upto n (i + 1) = if n.fmod p = 0 then upto n i ++ [.int p] else upto n i := by
  unfold upto
  rw [List.take_add_one, h, List.filter_append, List.map_append]
  by_cases c : n.fmod p = 0 <;> simp [c]
theorem upto_len (n : Int) (i : Nat) : (upto n i).length ≤ 10 := by
  unfold upto
  rw [List.length_map]
  refine Nat.le_trans (List.length_filter_le _ _) ?_
  rw [List.length_take]
  exact Nat.min_le_right _ _
theorem upto_all (n : Int) : upto n 10 = (primesOf n).map V.int := rfl
theorem ok_primes_of (T : Txt K mg) : FnOk P w K mg base CX0 1 T.a_primes_of T.d_primes_of ["number"] sp_primes_of := by
  refine T.F_primes_of.ok sc_primes_of (fun vs H Q E h => ?_) (fun cdv A outer s H vs Q E hr h => ?_)
  · obtain ⟨i, rfl, _⟩ := h
    rfl
  obtain ⟨n, rfl, q⟩ := h
  refine ⟨_, pss_one (ps_ret (pe_lc (own := [("p", 1)]) rfl sc_primes_of.nd (pi_tup (g_PRIMES T (by rfl))) (blkOk_by (N := N_primes_of) (sc := defScope s_primes_of) (by decide +kernel)) (fun _ _ _ _ _ => (pg_name (i := 1) sc_primes_of.nd rfl (Or.inl rfl))) (fun _ _ _ _ _ => (pts_one (pt_cmpR op_eq (pe_op op_modN (pv 0) (pv 1)) pe_int (nomark _)))) (fun _ _ _ _ _ => (pv 1)))), ?_⟩
  refine ⟨_, rfl, ⟨_, T.t_PRIMES H⟩, fun D nD => lc_tup (xs := C_PRIMES.map V.int) (Lc H D (upto n)) (lc_start nD rfl) (fun _ _ _ _ => T.t_PRIMES _) (fun i x H1 hx h => ?_) (fun H1 h => ?_)⟩
  · rw [List.getElem?_map] at hx
    obtain ⟨p, hp, rfl⟩ := Option.map_eq_some_iff.mp hx
    have hpp := PR_pos p (List.mem_of_getElem? hp)
    refine ⟨rfl, _, rfl, _, rfl, _, _, rfl, rfl, (by show p ≠ 0; omega), rfl, _, rfl, ?_⟩
    have hn := upto_next (n := n) hp
    refine ite2 (fun c => ?_) (fun c => ?_)
    · have c : n.fmod p = 0 := V.int.inj (of_decide_eq_true c)
      rw [if_pos c] at hn
      exact ⟨_, rfl, lc_leaf nD h.1 h.2 (Nat.le_trans (upto_len n i) (by decide)) hn⟩
    · have c : ¬ n.fmod p = 0 := fun z => c (decide_eq_true (congrArg V.int z))
      rw [if_neg c] at hn
      exact lc_skip h.1 h.2 hn
  · exact q D H1 h.1 nD h.2
end
end KL
namespace KL
open PySem PySem.Spec PyProof.Rows L2 RZ StX SrtO Kw
/-! ### bounds -/
/-- below 2 ^ b in size -/
def Bd (b : Nat) (i : Int) : Prop := i.natAbs < 2 ^ b
theorem Bd.mono {a b : Nat} {i : Int} (h : Bd a i) (l : a ≤ b) : Bd b i := Nat.lt_of_lt_of_le h (Nat.pow_le_pow_right (by decide) l)
theorem Bd.mul {a b : Nat} {i j : Int} (h : Bd a i) (h' : Bd b j) : Bd (a + b) (i * j) := wide_lt h h'
theorem Bd.add {a : Nat} {i j : Int} (h : Bd a i) (h' : Bd a j) : Bd (a + 1) (i + j) := by
  unfold Bd at *
  have := Int.natAbs_add_le i j
  rw [Nat.pow_succ]
  omega
theorem Bd.sub {a : Nat} {i j : Int} (h : Bd a i) (h' : Bd a j) : Bd (a + 1) (i - j) := by
  unfold Bd at *
  rw [Nat.pow_succ]
  omega
theorem Bd.neg {a : Nat} {i : Int} (h : Bd a i) : Bd a (-i) := by
  unfold Bd at *
  omega
theorem Bd.le {a : Nat} {i j : Int} (h0 : 0 ≤ i) (h : i ≤ j) (h' : Bd a j) : Bd a i := by
  unfold Bd at *
  omega
theorem Bd.mulOk {a b : Nat} {i j : Int} (h : Bd a i) (h' : Bd b j) (l : a + b ≤ 90000 := by omega) : CMulW i j := by
  have q : ∀ {c : Nat} {z : Int}, Bd c z → Bd (c + 1) z := fun h => h.mono (Nat.le_succ _)
  exact wide_mul (q h) (q h') (by omega) (by omega) (by omega)
theorem Bd.divOk {b : Nat} {j : Int} (h0 : 0 < j) (h : Bd b j) (l : b ≤ 8000 := by omega) : ∀ i, CDivW i j := fun i =>
  wide_div h0 (h.mono (Nat.le_succ b)) (by omega) (by omega)
theorem ip_mulS {X : Cx} : PIp X .Mult (rI CMul fun i j => .int (i * j)) := by
  intro pins s σ H x y v u Q I rx ry h
  obtain ⟨i, j, rfl, rfl, hc, q⟩ := h
  obtain ⟨t, rfl⟩ := rx
  obtain ⟨t', rfl⟩ := ry
  exact imul_int ⟨.int _, H, I.tok _, ⟨_, rfl⟩, q⟩ hc.ok
section
variable {P : Program} {w : World} {K : PySem.W.Frag} {mg : Str → Option Value} {base : Heap}
theorem cl_primes_of {X : Cx} {p pos : Pos} {e : Expr} {es : List Expr} {t : TA} (T : Txt K mg) (hr : Room 1 X.A) (ha : PA X (e :: es) t) (hg : Gl X "primes_of" := by rfl)
    (he : starEach (e :: es) X.env = (false, eval e X.env) :: starEach es X.env := by rfl) (hpl : (backTo pos (starEach es X.env)).any (·.1) = false := by rfl) (hK : X.K = K := by rfl) (hmg : X.mg = mg := by rfl) :
    PE X (.Call (.Name "primes_of" p) (e :: es) [] pos) (tCall sp_primes_of [] E0 t) := by
  subst hK hmg
  exact pe_call (ok_primes_of T) hr hg T.m_primes_of T.F_primes_of.kp T.b_primes_of .nil pass0 ha (by decide) he hpl
/-! ### part_at -/
def sp_part_at : Sp := fun vs H Q _ => ∃ (n p : Nat), vs = [.int n, .int p] ∧ 1 ≤ n ∧ 2 ≤ p ∧ p ≤ 29 ∧ ∀ k : Nat, p ^ k ∣ n → ¬ p ^ (k + 1) ∣ n → Q (.int ((p ^ k : Nat) : Int)) H
theorem ok_part_at (T : Txt K mg) : FnOk P w K mg base CX0 1 T.a_part_at T.d_part_at ["number", "p"] sp_part_at := by
  refine T.F_part_at.ok sc_part_at (fun vs H Q E h => ?_) (fun cdv A outer s H vs Q E hr h => ?_)
  · obtain ⟨n, p, rfl, _⟩ := h
    rfl
  obtain ⟨n, p, rfl, hn, h2, h29, q⟩ := h
  refine ⟨_, pss_cons (ps_set (i := 2) sc_part_at.nd rfl (Or.inl rfl) pe_int)
    (pss_cons (ps_while PassesOwn.never (pt_cmpR op_eq (pe_op op_mod (pv 0) (pv 1)) pe_int (nomark _)) (pss_cons (ps_aug (i := 0) sc_part_at.nd rfl (Or.inl rfl) (pv 1) ip_fdivW)
        (pss_one (ps_aug (i := 2) sc_part_at.nd rfl (Or.inl rfl) (pv 1) ip_mulS))))
    (pss_one (ps_ret (pv 2)))), ?_⟩
  have hp0 : (0 : Int) < p := by omega
  refine ⟨fun m σ H' => ∃ k : Nat, σ = [some (.int (m : Int)), some (.int p), some (.int ((p ^ k : Nat) : Int))] ∧ H = H' ∧ n = p ^ k * m ∧ 1 ≤ m, ⟨n, 0, rfl, rfl, by simp, hn⟩, ?_⟩
  rintro m σ H' ⟨k, rfl, rfl, e, hm⟩
  refine ⟨_, rfl, _, rfl, _, _, rfl, rfl, hp0, rfl, _, rfl, ite2 (fun c => ?_) (fun c => ?_)⟩
  · have c : (m : Int) % p = 0 := V.int.inj (of_decide_eq_true c)
    have c' : m % p = 0 := by omega
    have d := Nat.div_add_mod m p
    have lt : m / p < m := Nat.div_lt_self (by omega) (by omega)
    have pos : 1 ≤ m / p := by
      rcases Nat.eq_zero_or_pos (m / p) with z | z
      · rw [z, c'] at d
        omega
      · exact z
    refine ⟨fun σ H' => ∃ k : Nat, σ = [some (.int ((m / p : Nat) : Int)), some (.int p), some (.int ((p ^ k : Nat) : Int))] ∧ H = H' ∧ n = p ^ k * (m / p) ∧ 1 ≤ m / p, fun σ' H' z => ⟨m / p, lt, z⟩, ?_⟩
    refine ⟨_, rfl, _, rfl, _, _, rfl, rfl, wide_div (b := 5) hp0 (by show (p : Int).natAbs < 32; omega) (by decide) (by decide), ?_⟩
    refine ⟨_, rfl, _, rfl, _, _, rfl, rfl, .inr ⟨by omega, by omega⟩, k + 1, ?_, rfl, ?_, pos⟩
    · rw [Nat.pow_succ]
      rfl
    · rw [Nat.pow_succ, Nat.mul_assoc, e]
      congr 1
      omega
  · have c : ¬ (m : Int) % p = 0 := fun z => c (decide_eq_true (congrArg V.int z))
    have c' : ¬ p ∣ m := fun z => c (by have := Nat.mod_eq_zero_of_dvd z; omega)
    refine ⟨_, rfl, q k ?_ ?_⟩
    · rw [e]
      exact Nat.dvd_mul_right _ _
    · rw [e, Nat.pow_succ]
      exact fun z => c' (Nat.dvd_of_mul_dvd_mul_left (Nat.pow_pos (by omega)) z)
theorem cl_part_at {X : Cx} {p pos : Pos} {e : Expr} {es : List Expr} {t : TA} (T : Txt K mg) (hr : Room 1 X.A) (ha : PA X (e :: es) t) (hg : Gl X "part_at" := by rfl)
    (he : starEach (e :: es) X.env = (false, eval e X.env) :: starEach es X.env := by rfl) (hpl : (backTo pos (starEach es X.env)).any (·.1) = false := by rfl) (hK : X.K = K := by rfl) (hmg : X.mg = mg := by rfl) :
    PE X (.Call (.Name "part_at" p) (e :: es) [] pos) (tCall sp_part_at [] E0 t) := by
  subst hK hmg
  exact pe_call (ok_part_at T) hr hg T.m_part_at T.F_part_at.kp T.b_part_at .nil pass0 ha (by decide) he hpl
/-! ### common_divisor -/
def gcdL (m : Int) (cs : List Int) : Int := cs.foldl (fun g c => ((Nat.gcd g.natAbs c.natAbs : Nat) : Int)) m
def sp_common_divisor (K : PySem.W.Frag) : Sp := fun vs H Q _ => ∃ (m : Int) (a : Addr) (cs : List Int), vs = [.int m, .ref a] ∧ SqT K H a (cs.map V.int) ∧ Q (.int (gcdL m cs)) H
theorem ok_common_divisor (T : Txt K mg) : FnOk P w K mg base CX0 1 T.a_common_divisor T.d_common_divisor ["number", "others"] (sp_common_divisor K) := by
  refine T.F_common_divisor.ok sc_common_divisor (fun vs H Q E h => ?_) (fun cdv A outer s H vs Q E hr h => ?_)
  · obtain ⟨m, a, cs, rfl, _⟩ := h
    rfl
  obtain ⟨m, a, cs, rfl, hs, q⟩ := h
  refine ⟨_, pss_cons (ps_set (i := 2) sc_common_divisor.nd rfl (Or.inl rfl) (pv 0))
    (pss_cons (ps_for PassesOwn.never rfl (pi_tup (pv 1)) (pg_name (i := 3) sc_common_divisor.nd rfl (Or.inl rfl)) (pss_one (ps_set (i := 2) sc_common_divisor.nd rfl (Or.inl rfl) (pe_callBfun cr_gcd (by rfl) T.m_gcd (pa_cons (pv 2) (pa_cons (pv 3) pa_nil))))))
    (pss_one (ps_ret (pv 2)))), ?_⟩
  refine ⟨_, rfl, _, rfl, _, rfl, ⟨_, hs⟩, for_tup (xs := cs.map V.int) (fun i σ H' => ∃ z, σ = [some (.int m), some (.ref a), some (.int (gcdL m (cs.take i))), z] ∧ H = H') ⟨none, rfl, rfl⟩ ?_ ?_ ?_⟩
  · rintro i σ H' _ ⟨z, rfl, rfl⟩
    exact hs
  · rintro i x σ H' hx ⟨z, rfl, rfl⟩
    rw [List.getElem?_map] at hx
    obtain ⟨c, hc, rfl⟩ := Option.map_eq_some_iff.mp hx
    refine ⟨_, rfl, _, rfl, _, _, rfl, some (.int c), ?_, rfl⟩
    rw [List.take_add_one, hc]
    show _ = [_, _, some (V.int (gcdL m (cs.take i ++ [c]))), _]
    unfold gcdL
    rw [List.foldl_append]
    rfl
  · rintro σ H' ⟨z, rfl, rfl⟩
    refine ⟨_, rfl, ?_⟩
    rw [List.length_map, List.take_length]
    exact q
theorem cl_common_divisor {X : Cx} {p pos : Pos} {e : Expr} {es : List Expr} {t : TA} (T : Txt K mg) (hr : Room 1 X.A) (ha : PA X (e :: es) t) (hg : Gl X "common_divisor" := by rfl)
    (he : starEach (e :: es) X.env = (false, eval e X.env) :: starEach es X.env := by rfl) (hpl : (backTo pos (starEach es X.env)).any (·.1) = false := by rfl) (hK : X.K = K := by rfl) (hmg : X.mg = mg := by rfl) :
    PE X (.Call (.Name "common_divisor" p) (e :: es) [] pos) (tCall (sp_common_divisor K) [] E0 t) := by
  subst hK hmg
  exact pe_call (ok_common_divisor T) hr hg T.m_common_divisor T.F_common_divisor.kp T.b_common_divisor .nil pass0 ha (by decide) he hpl
end
end KL
namespace KL
open PySem PySem.Spec PyProof.Rows L2 RZ StX SrtO Kw KM
/-! ### periods -/
def prodP : List (Nat × Nat) → Nat
  | [] => 1
  | x :: r => x.1 * prodP r
abbrev intsN (l : List Nat) : List Int := l.map fun p : Nat => (p : Int)
theorem PR_PN : C_PRIMES = intsN PN := by decide
theorem fmod_dvd {m p : Nat} (hp : 2 ≤ p) : ((m : Int).fmod p = 0) ↔ p ∣ m := by
  rw [Int.fmod_eq_emod_of_nonneg _ (by omega)]
  constructor
  · intro h
    exact Nat.dvd_of_mod_eq_zero (by omega)
  · intro h
    have := Nat.mod_eq_zero_of_dvd h
    omega
theorem primesOf_mOf {pw : List (Nat × Nat)} (h : Pw pw) : primesOf (mOf pw : Nat) = intsN (pw.map (·.1)) := by
  rw [← primes_mOf h]
  unfold primesOf
  rw [PR_PN]
  unfold intsN
  rw [List.filter_map]
  congr 1
  refine List.filter_congr fun p hp => ?_
  have := PN_lt p hp
  show decide (((mOf pw : Nat) : Int).fmod (p : Int) = 0) = decide (p ∣ mOf pw)
  exact decide_eq_decide.mpr (fmod_dvd this.1)
theorem _root_.KM.Pw.drop {pw : List (Nat × Nat)} (h : Pw pw) : ∀ i, Pw (pw.drop i)
  | 0 => h
  | i + 1 => by
    have ih := KM.Pw.drop h i
    rw [show pw.drop (i + 1) = (pw.drop i).tail by simp]
    cases e : pw.drop i with
    | nil => rw [e] at ih; exact ih
    | cons x r => rw [e] at ih; exact ih.tail
theorem mOf_drop_dvd {pw : List (Nat × Nat)} : ∀ i, mOf (pw.drop i) ∣ mOf pw
  | 0 => Nat.dvd_refl _
  | i + 1 => by
    have ih := mOf_drop_dvd (pw := pw) i
    refine Nat.dvd_trans ?_ ih
    rw [show pw.drop (i + 1) = (pw.drop i).tail by simp]
    cases pw.drop i with
    | nil => exact Nat.dvd_refl _
    | cons x r => exact Nat.dvd_mul_left _ _
theorem prodP_append : ∀ (a : List (Nat × Nat)) (x : Nat × Nat), prodP (a ++ [x]) = prodP a * x.1
  | [], x => by simp [prodP]
  | y :: a, x => by
    show y.1 * prodP (a ++ [x]) = y.1 * prodP a * x.1
    rw [prodP_append a x, Nat.mul_assoc]
/-- a period as the program takes it -/
structure Per (pw : List (Nat × Nat)) : Prop where
  ok : Pw pw
  few : prodP pw ≤ 1000
  bd : mOf pw < 2 ^ 2000
def sp_is_period : Sp := fun vs H Q _ => ∃ pw, Per pw ∧ vs = [.int ((mOf pw : Nat) : Int)] ∧ ∀ H', Same H H' → Q (.bl true) H'
section
variable {P : Program} {w : World} {K : PySem.W.Frag} {mg : Str → Option Value} {base : Heap}
theorem ok_is_period (T : Txt K mg) : FnOk P w K mg base CX0 2 T.a_is_period T.d_is_period ["thing"] sp_is_period := by
  refine T.F_is_period.ok sc_is_period (fun vs H Q E h => ?_) (fun cdv A outer s H vs Q E hr h => ?_)
  · obtain ⟨pw, _, rfl, _⟩ := h
    rfl
  obtain ⟨pw, hp, rfl, q⟩ := h
  refine ⟨_, pss_cons (ps_if (PW.pt (pw_or (pt_not (pt_val (cl_is_integer T (hr.mono (by decide)) (pa_cons (pv 0) pa_nil)))) (pw_or1 (pt_cmpR op_lt (pv 0) pe_int (nomark _))))) (pss_one (ps_ret pe_bl)) pss_nil)
    (pss_cons (ps_par (i := 1) (j := 2) (by rfl) sc_is_period.nd rfl rfl (by decide) rfl rfl (pa_cons (pv 0) (pa_cons pe_int pa_nil)) (by rfl))
    (pss_cons (ps_for PassesOwn.never rfl (pi_list (cl_primes_of T (hr.mono (by decide)) (pa_cons (pv 0) pa_nil))) (pg_name (i := 3) sc_is_period.nd rfl (Or.inl rfl)) (pss_cons (ps_aug (i := 1) sc_is_period.nd rfl (Or.inl rfl) (cl_part_at T (hr.mono (by decide)) (pa_cons (pv 1) (pa_cons (pv 3) pa_nil))) ip_fdivW)
        (pss_one (ps_aug (i := 2) sc_is_period.nd rfl (Or.inl rfl) (pv 3) ip_mulS))))
    (pss_one (ps_ret (pe_and (pe_cmpR op_eq (pv 1) pe_int (nomark _)) (pe_one (pe_cmpR op_le (pv 2) (g_MOST_PRIMES_MULTIPLIED T (by rfl)) (nomark _)))))))), ?_⟩
  have hm := mOf_pos hp.ok
  refine ⟨_, rfl, _, rfl, true, rfl, iteF ?_⟩
  refine ⟨_, rfl, _, _, rfl, rfl, _, rfl, ite2 (fun c => ?_) (fun _ => ?_)⟩
  · have c := of_decide_eq_true c
    omega
  refine ⟨_, rfl, _, _, rfl, ?_⟩
  refine ⟨_, rfl, _, rfl, fun a H1 s1 na ea => ?_⟩
  rw [primesOf_mOf hp.ok] at ea
  refine ⟨a, rfl, ⟨_, SqL.of ea⟩, for_list (xs := (intsN (pw.map (·.1))).map V.int) (fun i σ H' => ∃ z, σ = [some (.int ((mOf pw : Nat) : Int)), some (.int ((mOf (pw.drop i) : Nat) : Int)), some (.int ((prodP (pw.take i) : Nat) : Int)), z] ∧ H1 = H') ⟨none, rfl, rfl⟩ ?_ ?_ ?_⟩
  · rintro i σ H' _ ⟨z, rfl, rfl⟩
    exact SqL.of ea
  · rintro i x σ H' hx ⟨z, rfl, rfl⟩
    rw [List.getElem?_map, List.getElem?_map, List.getElem?_map] at hx
    obtain ⟨y, hy, e⟩ : ∃ y, pw[i]? = some y ∧ V.int (y.1 : Int) = x := by
      cases e : pw[i]? with
      | none => rw [e] at hx; cases hx
      | some y => rw [e] at hx; exact ⟨y, rfl, Option.some.inj hx⟩
    subst e
    have hd : pw.drop i = y :: pw.drop (i + 1) := by
      obtain ⟨hi, rfl⟩ := List.getElem?_eq_some_iff.mp hy
      exact List.drop_eq_getElem_cons hi
    have hw := hp.ok.drop i
    have hyP := hp.ok.mem (List.mem_of_getElem? hy)
    have y2 := PN_lt _ hyP
    have hpos := mOf_pos hw
    have hbd : mOf (pw.drop i) < 2 ^ 2000 := Nat.lt_of_le_of_lt (Nat.le_of_dvd (by omega) (mOf_drop_dvd i)) hp.bd
    refine ⟨_, rfl, _, rfl, _, rfl, mOf (pw.drop i), y.1, rfl, hpos, y2.1, y2.2, fun k k1 k2 => ?_⟩
    rw [hd] at k1 k2 hw
    obtain rfl := part_first hw k1 k2
    have e2 : mOf (pw.drop i) = y.1 ^ y.2 * mOf (pw.drop (i + 1)) := by rw [hd]; rfl
    have p0 : 0 < y.1 ^ y.2 := Nat.pow_pos (by omega)
    have lt : y.1 ^ y.2 < 2 ^ 2000 := Nat.lt_of_le_of_lt (Nat.le_of_dvd hpos (by rw [e2]; exact Nat.dvd_mul_right _ _)) hbd
    refine ⟨_, _, rfl, rfl, Bd.divOk (b := 2000) (by omega) (by unfold Bd; omega) (by decide) _, ?_⟩
    refine ⟨_, rfl, _, rfl, _, _, rfl, rfl, .inr ⟨by omega, by omega⟩, some (.int (y.1 : Int)), ?_, rfl⟩
    have e3 : ((mOf (pw.drop i) : Nat) : Int) / ((y.1 ^ y.2 : Nat) : Int) = ((mOf (pw.drop (i + 1)) : Nat) : Int) := by
      rw [e2, ← Int.natCast_ediv, Nat.mul_div_cancel_left _ p0]
    have e4 : ((prodP (pw.take i) : Nat) : Int) * (y.1 : Int) = ((prodP (pw.take (i + 1)) : Nat) : Int) := by
      rw [List.take_add_one, hy]
      show _ = ((prodP (pw.take i ++ [y]) : Nat) : Int)
      rw [prodP_append, Int.natCast_mul]
    rw [← e3, ← e4]
    rfl
  · rintro σ H' ⟨z, rfl, rfl⟩
    have e1 : pw.drop ((intsN (pw.map (·.1))).map V.int).length = [] := by simp
    have e2 : pw.take ((intsN (pw.map (·.1))).map V.int).length = pw := by simp
    rw [e1, e2]
    have few : ((prodP pw : Nat) : Int) ≤ 1000 := by have := hp.few; omega
    refine ⟨_, rfl, rfl, true, rfl, iteT ⟨_, rfl, _, _, rfl, rfl, ?_⟩⟩
    have z := q _ s1
    rw [← decide_eq_true few] at z
    exact z
theorem cl_is_period {X : Cx} {p pos : Pos} {e : Expr} {es : List Expr} {t : TA} (T : Txt K mg) (hr : Room 2 X.A) (ha : PA X (e :: es) t) (hg : Gl X "is_period" := by rfl)
    (he : starEach (e :: es) X.env = (false, eval e X.env) :: starEach es X.env := by rfl) (hpl : (backTo pos (starEach es X.env)).any (·.1) = false := by rfl) (hK : X.K = K := by rfl) (hmg : X.mg = mg := by rfl) :
    PE X (.Call (.Name "is_period" p) (e :: es) [] pos) (tCall sp_is_period [] E0 t) := by
  subst hK hmg
  exact pe_call (ok_is_period T) hr hg T.m_is_period T.F_is_period.kp T.b_is_period .nil pass0 ha (by decide) he hpl
/-! ### cells -/
theorem ty_tup {H : Hp} {a : Addr} {xs : List V} (h : SqT K H a xs) : TyX K H (.ref a) (.type "tuple") := by
  rcases h with (h | ⟨o, h⟩) | ⟨o, its, n, hk, hc, _⟩
  · exact .base (.tup h)
  · exact .fTuple h
  · exact .kTuple hk hc
def sp_is_cell (K : PySem.W.Frag) : Sp := fun vs H Q _ => ∃ (a : Addr) (xs : List Int), vs = [.ref a] ∧ SqT K H a (xs.map V.int) ∧ 1 ≤ xs.length ∧ xs.length ≤ 3 ∧ ∀ H', Same H H' → Q (.bl true) H'
theorem yes_ {σ : L2.St} {H : Hp} {R : Bool → Hp → Prop} (h : R true H) : tYes σ H R := h
theorem all_true : ∀ n, (List.replicate n true).all id = true
  | 0 => rfl
  | n + 1 => by rw [List.replicate_succ, List.all_cons, all_true n]; rfl
theorem ok_is_cell (T : Txt K mg) : FnOk P w K mg base CX0 2 T.a_is_cell T.d_is_cell ["thing"] (sp_is_cell K) := by
  refine T.F_is_cell.ok sc_is_cell (fun vs H Q E h => ?_) (fun cdv A outer s H vs Q E hr h => ?_)
  · obtain ⟨a, xs, rfl, _⟩ := h
    rfl
  obtain ⟨a, xs, rfl, hs, h1, h3, q⟩ := h
  refine ⟨_, pss_cons (ps_if (PW.pt (pw_or (pt_not (pt_val (pe_callB call_isi (by rfl) T.n_isinstance (by decide +kernel) (pa_cons (pv 0) (pa_cons (v_tuple T (by rfl)) pa_nil))))) (pw_or1 (pt_not (pt_chain op_le op_le pe_int (pe_callB call_len_seq (by rfl) T.n_len (by decide +kernel) (pa_cons (pv 0) pa_nil)) (g_MOST_BREADTH T (by rfl))))))) (pss_one (ps_ret pe_bl)) pss_nil)
    (pss_one (ps_ret (pe_callB (cr_all rfl) (by rfl) T.n_all (by decide +kernel) (pa_cons (pe_lc (own := [("number", 1)]) rfl sc_is_cell.nd (pi_tup (pv 0)) (blkOk_by (N := N_is_cell) (sc := defScope s_is_cell) (by decide +kernel)) (fun _ _ _ _ _ => (pg_name (i := 1) sc_is_cell.nd rfl (Or.inl rfl))) (fun _ _ _ _ _ => pts_nil) (fun _ _ _ _ _ => (cl_is_integer T (hr.mono (by decide)) (pa_cons (pv 1) pa_nil)))) pa_nil)))), ?_⟩
  refine ⟨_, rfl, _, _, _, _, true, rfl, ClsV.ty _, ty_tup hs, kit_ty (by decide +kernel), true, rfl, iteF ?_⟩
  have hl : (xs.map V.int).length = xs.length := List.length_map _
  refine ⟨_, rfl, a, _, rfl, .inr hs, _, _, rfl, rfl, true, ?_, iteT ?_⟩
  · exact congrArg V.bl (decide_eq_true (by rw [hl]; omega))
  refine ⟨_, _, rfl, rfl, true, ?_, iteF ?_⟩
  · exact congrArg V.bl (decide_eq_true (by rw [hl]; omega))
  refine ⟨_, rfl, _, rfl, ⟨_, hs⟩, fun D nD => lc_tup (xs := xs.map V.int) (Lc H D fun i => (List.replicate i true).map V.bl) (lc_start nD rfl) (fun _ _ _ h => h.1.sqt hs) (fun i x H1 hx h => ?_) (fun H1 h => ?_)⟩
  · rw [List.getElem?_map] at hx
    obtain ⟨c, hc, rfl⟩ := Option.map_eq_some_iff.mp hx
    have hi : i < xs.length := (List.getElem?_eq_some_iff.mp hc).1
    refine ⟨rfl, yes_ (iteT ?_)⟩
    exact ⟨_, rfl, _, rfl, lc_leaf nD h.1 h.2 (by simp; omega) (by simp [List.replicate_succ'])⟩
  · refine ⟨D, _, rfl, SqL.of h.2, ?_⟩
    rw [all_true]
    exact q H1 h.1
theorem cl_is_cell {X : Cx} {p pos : Pos} {e : Expr} {es : List Expr} {t : TA} (T : Txt K mg) (hr : Room 2 X.A) (ha : PA X (e :: es) t) (hg : Gl X "is_cell" := by rfl)
    (he : starEach (e :: es) X.env = (false, eval e X.env) :: starEach es X.env := by rfl) (hpl : (backTo pos (starEach es X.env)).any (·.1) = false := by rfl) (hK : X.K = K := by rfl) (hmg : X.mg = mg := by rfl) :
    PE X (.Call (.Name "is_cell" p) (e :: es) [] pos) (tCall (sp_is_cell K) [] E0 t) := by
  subst hK hmg
  exact pe_call (ok_is_cell T) hr hg T.m_is_cell T.F_is_cell.kp T.b_is_cell .nil pass0 ha (by decide) he hpl
end
end KL
namespace KL
open PySem PySem.Spec PyProof.Rows L2 RZ StX SrtO Kw KM
/-! ### stripes -/
structure SOk (pw : List (Nat × Nat)) (cs : List Int) (r : Int) : Prop where
  per : Per pw
  l1 : 1 ≤ cs.length
  l3 : cs.length ≤ 3
  c0 : ∀ c ∈ cs, 0 ≤ c ∧ c < (mOf pw : Nat)
  r0 : 0 ≤ r ∧ r < (mOf pw : Nat)
  cop : gcdL (mOf pw : Nat) cs = 1
/-- the tuple (m, c, r) at a -/
structure SAt (K : PySem.W.Frag) (H : Hp) (a : Addr) (m : Nat) (cs : List Int) (r : Int) : Prop where
  at_ : ∃ c, SqT K H a [.int m, .ref c, .int r] ∧ SqT K H c (cs.map V.int)
theorem SAt.mono {K : PySem.W.Frag} {H H' : Hp} {a : Addr} {m : Nat} {cs : List Int} {r : Int} (h : SAt K H a m cs r) (e : Same H H') : SAt K H' a m cs r := by
  obtain ⟨c, h1, h2⟩ := h.at_
  exact ⟨c, e.sqt h1, e.sqt h2⟩
def sp_is_stripe (K : PySem.W.Frag) : Sp := fun vs H Q _ => ∃ (a : Addr) (pw : List (Nat × Nat)) (cs : List Int) (r : Int), vs = [.ref a] ∧ SAt K H a (mOf pw) cs r ∧ SOk pw cs r ∧ ∀ H', Same H H' → Q (.bl true) H'
section
variable {P : Program} {w : World} {K : PySem.W.Frag} {mg : Str → Option Value} {base : Heap}
theorem ok_is_stripe (T : Txt K mg) : FnOk P w K mg base CX0 3 T.a_is_stripe T.d_is_stripe ["thing"] (sp_is_stripe K) := by
  refine T.F_is_stripe.ok sc_is_stripe (fun vs H Q E h => ?_) (fun cdv A outer s H vs Q E hr h => ?_)
  · obtain ⟨a, pw, cs, r, rfl, _⟩ := h
    rfl
  obtain ⟨a, pw, cs, r, rfl, hA, hO, q⟩ := h
  obtain ⟨c, ha, hc⟩ := hA.at_
  refine ⟨_, pss_cons (ps_if (PW.pt (pw_or (pt_not (pt_val (pe_callB call_isi (by rfl) T.n_isinstance (by decide +kernel) (pa_cons (pv 0) (pa_cons (v_tuple T (by rfl)) pa_nil))))) (pw_or1 (pt_cmpR op_ne (pe_callB call_len_seq (by rfl) T.n_len (by decide +kernel) (pa_cons (pv 0) pa_nil)) pe_int (nomark _))))) (pss_one (ps_ret pe_bl)) pss_nil)
    (pss_cons (ps_asg (pv 0) (pg_tup (by rfl) (pgs_cons (pg_name (i := 1) sc_is_stripe.nd rfl (Or.inr rfl)) (pgs_cons (pg_name (i := 2) sc_is_stripe.nd rfl (Or.inl rfl)) (pgs_cons (pg_name (i := 3) sc_is_stripe.nd rfl (Or.inl rfl)) pgs_nil)))))
    (pss_cons (ps_if (PW.pt (pw_or (pt_not (pt_val (cl_is_period T (hr.mono (by decide)) (pa_cons (pv 1) pa_nil)))) (pw_or (pt_not (pt_val (cl_is_cell T (hr.mono (by decide)) (pa_cons (pv 2) pa_nil)))) (pw_or1 (pt_not (pt_val (cl_is_integer T (hr.mono (by decide)) (pa_cons (pv 3) pa_nil)))))))) (pss_one (ps_ret pe_bl)) pss_nil)
    (pss_cons (ps_if (pt_not (pt_val (pe_callB (cr_all rfl) (by rfl) T.n_all (by decide +kernel) (pa_cons (pe_lc (own := [("number", 4)]) rfl sc_is_stripe.nd (pi_tup (pe_tup (pa_star (pv 2) (pa_cons (pv 3) pa_nil)))) (blkOk_by (N := N_is_stripe) (sc := defScope s_is_stripe) (by decide +kernel)) (fun _ _ _ _ _ => (pg_name (i := 4) sc_is_stripe.nd rfl (Or.inl rfl))) (fun _ _ _ _ _ => pts_nil) (fun _ _ _ _ _ => (pe_chain op_le op_lt pe_int (pv 4) (pv 1)))) pa_nil)))) (pss_one (ps_ret pe_bl)) pss_nil)
    (pss_one (ps_ret (pe_cmpR op_eq (cl_common_divisor T (hr.mono (by decide)) (pa_cons (pv 1) (pa_cons (pv 2) pa_nil))) pe_int (nomark _))))))), ?_⟩
  refine ⟨_, rfl, _, _, _, _, true, rfl, ClsV.ty _, ty_tup ha, kit_ty (by decide +kernel), true, rfl, iteF ?_⟩
  refine ⟨_, rfl, a, _, rfl, .inr ha, rfl, _, rfl, iteF ?_⟩
  refine ⟨_, rfl, a, _, rfl, ha, rfl, _, _, rfl, _, _, rfl, _, _, rfl, rfl, ?_⟩
  refine ⟨_, rfl, pw, hO.per, rfl, fun H1 s1 => ⟨true, rfl, iteF ?_⟩⟩
  refine ⟨_, rfl, c, cs, rfl, s1.sqt hc, hO.l1, hO.l3, fun H2 s2 => ⟨true, rfl, iteF ?_⟩⟩
  refine ⟨_, rfl, r, rfl, true, rfl, iteF ?_⟩
  have s12 := s1.trans s2
  have n4 : (cs.map V.int ++ [V.int r]).length = cs.length + 1 := by simp
  have l3 := hO.l3
  refine ⟨_, rfl, c, _, rfl, .inl (s12.sqt hc), _, rfl, ?_, fun t nt => ?_⟩
  · show (cs.map V.int ++ [V.int r]).length ≤ sizeLine
    rw [n4]
    exact Nat.le_trans (show cs.length + 1 ≤ 4 by omega) (by decide)
  have s3 := same_new nt (.tup (cs.map V.int ++ [V.int r]))
  have ht : SqT K (upd H2 t (.tup (cs.map V.int ++ [V.int r]))) t ((cs ++ [r]).map V.int) := by
    rw [List.map_append]
    exact SqT.of upd_same
  refine ⟨t, rfl, ⟨_, ht⟩, fun D nD => lc_tup (xs := (cs ++ [r]).map V.int) (Lc _ D fun i => (List.replicate i true).map V.bl) (lc_start nD rfl) (fun _ _ _ h => h.1.sqt ht) (fun i x H3 hx h => ?_) (fun H3 h => ?_)⟩
  · rw [List.getElem?_map] at hx
    obtain ⟨z, hz, rfl⟩ := Option.map_eq_some_iff.mp hx
    have hi := (List.getElem?_eq_some_iff.mp hz).1
    rw [List.length_append] at hi
    have hb : 0 ≤ z ∧ z < (mOf pw : Nat) := by
      rcases List.mem_append.mp (List.mem_of_getElem? hz) with k | k
      · exact hO.c0 z k
      · rw [List.mem_singleton.mp k]
        exact hO.r0
    refine ⟨rfl, yes_ (iteT ?_)⟩
    refine ⟨_, rfl, _, _, rfl, rfl, true, congrArg V.bl (decide_eq_true hb.1), iteT ?_⟩
    refine ⟨_, rfl, _, _, rfl, rfl, ?_⟩
    refine lc_leaf nD h.1 h.2 (by simp only [List.length_map, List.length_replicate]; simp at hi; omega) ?_
    show (List.replicate (i + 1) true).map V.bl = (List.replicate i true).map V.bl ++ [V.bl (decide (z < ((mOf pw : Nat) : Int)))]
    rw [decide_eq_true hb.2]
    simp [List.replicate_succ']
  · refine ⟨D, _, rfl, SqL.of h.2, ?_⟩
    rw [all_true]
    refine ⟨true, rfl, iteF ?_⟩
    have s4 := (s12.trans s3).trans h.1
    refine ⟨_, rfl, _, rfl, _, c, cs, rfl, s4.sqt hc, ?_⟩
    refine ⟨rfl, ?_⟩
    have z := q H3 s4
    rw [← decide_eq_true (congrArg V.int hO.cop)] at z
    exact z
theorem cl_is_stripe {X : Cx} {p pos : Pos} {e : Expr} {es : List Expr} {t : TA} (T : Txt K mg) (hr : Room 3 X.A) (ha : PA X (e :: es) t) (hg : Gl X "is_stripe" := by rfl)
    (he : starEach (e :: es) X.env = (false, eval e X.env) :: starEach es X.env := by rfl) (hpl : (backTo pos (starEach es X.env)).any (·.1) = false := by rfl) (hK : X.K = K := by rfl) (hmg : X.mg = mg := by rfl) :
    PE X (.Call (.Name "is_stripe" p) (e :: es) [] pos) (tCall (sp_is_stripe K) [] E0 t) := by
  subst hK hmg
  exact pe_call (ok_is_stripe T) hr hg T.m_is_stripe T.F_is_stripe.kp T.b_is_stripe .nil pass0 ha (by decide) he hpl
def sp_check_stripe (K : PySem.W.Frag) : Sp := fun vs H Q _ => ∃ (a : Addr) (pw : List (Nat × Nat)) (cs : List Int) (r : Int), vs = [.ref a] ∧ SAt K H a (mOf pw) cs r ∧ SOk pw cs r ∧ ∀ H', Same H H' → Q .non H'
theorem ok_check_stripe (T : Txt K mg) : FnOk P w K mg base CX0 4 T.a_check_stripe T.d_check_stripe ["thing"] (sp_check_stripe K) := by
  refine T.F_check_stripe.ok sc_check_stripe (fun vs H Q E h => ?_) (fun cdv A outer s H vs Q E hr h => ?_)
  · obtain ⟨a, pw, cs, r, rfl, _⟩ := h
    rfl
  obtain ⟨a, pw, cs, r, rfl, hA, hO, q⟩ := h
  refine ⟨_, pss_one (ps_if (pt_not (pt_val (cl_is_stripe T (hr.mono (by decide)) (pa_cons (pv 0) pa_nil)))) (pss_one ps_never) pss_nil), ?_⟩
  exact ⟨_, rfl, a, pw, cs, r, rfl, hA, hO, fun H1 s1 => ⟨true, rfl, iteF (q H1 s1)⟩⟩
theorem cl_check_stripe {X : Cx} {p pos : Pos} {e : Expr} {es : List Expr} {t : TA} (T : Txt K mg) (hr : Room 4 X.A) (ha : PA X (e :: es) t) (hg : Gl X "check_stripe" := by rfl)
    (he : starEach (e :: es) X.env = (false, eval e X.env) :: starEach es X.env := by rfl) (hpl : (backTo pos (starEach es X.env)).any (·.1) = false := by rfl) (hK : X.K = K := by rfl) (hmg : X.mg = mg := by rfl) :
    PE X (.Call (.Name "check_stripe" p) (e :: es) [] pos) (tCall (sp_check_stripe K) [] E0 t) := by
  subst hK hmg
  exact pe_call (ok_check_stripe T) hr hg T.m_check_stripe T.F_check_stripe.kp T.b_check_stripe .nil pass0 ha (by decide) he hpl
/-! ### products across -/
def dotI (cs xs : List Int) : Int := (List.zipWith (fun a b => a * b) cs xs).sum
--#fn dot
def sp_dot (K : PySem.W.Frag) : Sp := fun vs H Q _ => ∃ (a b : Addr) (cs xs : List Int), vs = [.ref a, .ref b] ∧ SqT K H a (cs.map V.int) ∧ SqT K H b (xs.map V.int) ∧ cs.length = xs.length ∧ cs.length ≤ 3 ∧
  (∀ c ∈ cs, Bd 2000 c) ∧ (∀ x ∈ xs, Bd 2000 x) ∧ ∀ H', Same H H' → Q (.int (dotI cs xs)) H'
--#fn lies_on
def sp_lies_on (K : PySem.W.Frag) : Sp := fun vs H Q _ => ∃ (a b : Addr) (m : Nat) (cs xs : List Int) (r : Int), vs = [.ref a, .ref b] ∧ SAt K H a m cs r ∧ SqT K H b (xs.map V.int) ∧ cs.length = xs.length ∧ cs.length ≤ 3 ∧ 1 ≤ m ∧
  (∀ c ∈ cs, Bd 2000 c) ∧ (∀ x ∈ xs, Bd 2000 x) ∧ ∀ H', Same H H' → Q (.bl (decide ((dotI cs xs - r) % m = 0))) H'
--#fn is_on
/-! ### is_on -/
def sp_is_on (K : PySem.W.Frag) : Sp := fun vs H Q _ => ∃ (a b : Addr) (pw : List (Nat × Nat)) (cs xs : List Int) (r : Int), vs = [.ref a, .ref b] ∧ SAt K H a (mOf pw) cs r ∧ SOk pw cs r ∧ SqT K H b (xs.map V.int) ∧ cs.length = xs.length ∧
  (∀ x ∈ xs, Bd 2000 x) ∧ ∀ H', Same H H' → Q (.bl (decide ((dotI cs xs - r) % (mOf pw : Nat) = 0))) H'
--#all
theorem SOk.bd {pw : List (Nat × Nat)} {cs : List Int} {r : Int} (h : SOk pw cs r) : ∀ c ∈ cs, Bd 2000 c := fun c hc => by
  have := h.c0 c hc
  have := h.per.bd
  unfold Bd
  omega
--#fn is_on
end
--#all
end KL
namespace KL
open PySem PySem.Spec PyProof.Rows L2 RZ StX SrtO Kw KM
abbrev qOf (x : Nat × Nat) : Nat := x.1 ^ x.2
/-- what is drawn of periods: below 10 ^ 40 -/
structure PerD (pw : List (Nat × Nat)) : Prop where
  ok : Pw pw
  few : prodP pw ≤ 1000
  lt : mOf pw < 10 ^ 40
theorem PerD.per {pw : List (Nat × Nat)} (h : PerD pw) : Per pw := ⟨h.ok, h.few, Nat.lt_trans h.lt (by decide)⟩
theorem qOf_le {pw : List (Nat × Nat)} (h : Pw pw) {x : Nat × Nat} (hx : x ∈ pw) : 1 ≤ qOf x ∧ qOf x ≤ mOf pw := by
  have := mOf_pos h
  have d := part_dvd_mOf h hx
  have := PN_lt _ (h.mem hx)
  exact ⟨Nat.pow_pos (by omega), Nat.le_of_dvd (by omega) d⟩
/-- m // q is divisible by every other prime of m, not by the one of q -/
theorem cof_dvd {pw : List (Nat × Nat)} (h : Pw pw) {x y : Nat × Nat} (hx : x ∈ pw) (hy : y ∈ pw) : y.1 ∣ mOf pw / qOf x ↔ y.1 ≠ x.1 := by
  have hxP := h.mem hx
  have hyP := h.mem hy
  have qx := qOf_le h hx
  have d := part_dvd_mOf h hx
  have e : mOf pw = qOf x * (mOf pw / qOf x) := (Nat.mul_div_cancel' d).symm
  constructor
  · intro dv ex
    -- then a higher power of the prime would divide
    have d2 : x.1 ^ (x.2 + 1) ∣ mOf pw := by
      rw [e, Nat.pow_succ]
      rw [ex] at dv
      exact Nat.mul_dvd_mul (Nat.dvd_refl _) dv
    clear e dv ex
    revert d2
    clear d qx hyP hy
    induction pw with
    | nil => cases hx
    | cons z r ih =>
      intro d2
      rcases List.mem_cons.mp hx with rfl | hx'
      · have := PN_lt _ hxP
        rw [Nat.pow_succ] at d2
        have d3 : x.1 ∣ mOf r := Nat.dvd_of_mul_dvd_mul_left (Nat.pow_pos (by omega)) (show x.1 ^ x.2 * x.1 ∣ x.1 ^ x.2 * mOf r from d2)
        exact (List.nodup_cons.mp h.nodup).1 ((dvd_mOf hxP h.tail).mp d3)
      · refine ih h.tail hx' ?_
        have c : Nat.Coprime (x.1 ^ (x.2 + 1)) (z.1 ^ z.2) := by
          refine cop_pow (Nat.Coprime.symm (cop_pow (cop_of (h.mem List.mem_cons_self) fun dd => ?_) _)) _
          have ez := eq_of_dvd (h.mem List.mem_cons_self) hxP dd
          exact (List.nodup_cons.mp h.nodup).1 (by show z.1 ∈ r.map (fun y => y.1); rw [ez]; exact List.mem_map_of_mem (f := fun y : Nat × Nat => y.1) hx')
        exact c.dvd_of_dvd_mul_left (show _ ∣ z.1 ^ z.2 * mOf r from d2)
  · intro ne
    have dm : y.1 ∣ mOf pw := (dvd_mOf hyP h).mpr (List.mem_map_of_mem hy)
    rw [e] at dm
    rcases dvd_mul_of hyP dm with q | q
    · exact absurd (eq_of_dvd hyP hxP (dvd_pow_of hyP q)) ne
    · exact q
theorem mulB {n u B C : Nat} (h : u < (n + 1) * B) (hn : n ≤ 10) (hB : 11 * B < C) : u < C :=
  Nat.lt_of_lt_of_le h (Nat.le_trans (Nat.mul_le_mul_right B (show n + 1 ≤ 11 by omega)) (Nat.le_of_lt hB))
theorem pw_len {pw : List (Nat × Nat)} (h : Pw pw) : pw.length ≤ 10 := by
  have := h.sub.length_le
  simpa [PN] using this
theorem emodB (a : Int) {b : Int} (h : 0 < b) : 0 ≤ a % b ∧ a % b < b := ⟨Int.emod_nonneg _ (by omega), Int.emod_lt_of_pos _ h⟩
theorem dot_cons (c x : Int) (cs xs : List Int) : dotI (c :: cs) (x :: xs) = c * x + dotI cs xs := by
  unfold dotI
  rw [List.zipWith_cons_cons, List.sum_cons]
end KL
namespace KL
open PySem PySem.Spec PyProof.Rows L2 RZ StX SrtO Kw KM
theorem gcdL_dvd : ∀ (cs : List Int) (m : Int), (gcdL m cs).natAbs ∣ m.natAbs ∧ ∀ c ∈ cs, (gcdL m cs).natAbs ∣ c.natAbs
  | [], m => ⟨Nat.dvd_refl _, fun c h => absurd h List.not_mem_nil⟩
  | x :: r, m => by
    have ih := gcdL_dvd r ((Nat.gcd m.natAbs x.natAbs : Nat) : Int)
    have e : gcdL m (x :: r) = gcdL ((Nat.gcd m.natAbs x.natAbs : Nat) : Int) r := rfl
    rw [e]
    have d := ih.1
    rw [Int.natAbs_natCast] at d
    refine ⟨Nat.dvd_trans d (Nat.gcd_dvd_left _ _), fun c hc => ?_⟩
    rcases List.mem_cons.mp hc with rfl | hc
    · exact Nat.dvd_trans d (Nat.gcd_dvd_right _ _)
    · exact ih.2 c hc
theorem gcdL_nonneg : ∀ (cs : List Int) (m : Int), 0 ≤ m → 0 ≤ gcdL m cs
  | [], m, h => h
  | x :: r, m, _ => gcdL_nonneg r _ (Int.natCast_nonneg _)
theorem gcdL_one {pw : List (Nat × Nat)} (h : Pw pw) {cs : List Int} (ok : ∀ x ∈ pw, ∃ c ∈ cs, ¬ (x.1 : Int) ∣ c) : gcdL (mOf pw : Nat) cs = 1 := by
  have d := gcdL_dvd cs ((mOf pw : Nat) : Int)
  rw [Int.natAbs_natCast] at d
  have n0 := gcdL_nonneg cs ((mOf pw : Nat) : Int) (Int.natCast_nonneg _)
  have g1 := prime_in h d.1 fun x hx dv => by
    obtain ⟨c, hc, nd⟩ := ok x hx
    exact nd (Int.ofNat_dvd_left.mpr (Nat.dvd_trans dv (d.2 c hc)))
  omega
theorem gcdL_mem : ∀ (cs : List Int) (m : Int) (p : Nat), p ∣ m.natAbs → (∀ c ∈ cs, p ∣ c.natAbs) → p ∣ (gcdL m cs).natAbs
  | [], m, p, h, _ => h
  | x :: r, m, p, h, hc => by
    refine gcdL_mem r ((Nat.gcd m.natAbs x.natAbs : Nat) : Int) p ?_ fun c h => hc c (List.mem_cons_of_mem _ h)
    rw [Int.natAbs_natCast]
    exact Nat.dvd_gcd h (hc x List.mem_cons_self)
theorem SOk.free {pw : List (Nat × Nat)} {cs : List Int} {r : Int} (h : SOk pw cs r) {x : Nat × Nat} (hx : x ∈ pw) : ∃ c ∈ cs, ¬ (x.1 : Int) ∣ c := by
  have hp := h.per.ok.mem hx
  have p2 := PN_lt _ hp
  refine Classical.byContradiction fun no => ?_
  have all : ∀ c ∈ cs, x.1 ∣ c.natAbs := fun c hc => by
    refine Classical.byContradiction fun nd => no ⟨c, hc, fun z => nd (Int.ofNat_dvd_left.mp z)⟩
  have d := gcdL_mem cs ((mOf pw : Nat) : Int) x.1 (by rw [Int.natAbs_natCast]; exact (dvd_mOf hp h.per.ok).mpr (List.mem_map_of_mem hx)) all
  rw [h.cop] at d
  have := Nat.le_of_dvd (by decide) d
  have : (1 : Int).natAbs = 1 := rfl
  omega
theorem Pw.single {pw : List (Nat × Nat)} (h : Pw pw) {x : Nat × Nat} (hx : x ∈ pw) : Pw [x] :=
  ⟨List.singleton_sublist.mpr (h.mem hx), fun y hy => by rw [List.mem_singleton.mp hy]; exact h.pos x hx⟩
theorem mOf_single (x : Nat × Nat) : mOf [x] = qOf x := Nat.mul_one _
theorem dot_mod (q : Int) : ∀ (cs xs : List Int), (dotI (cs.map fun c => c % q) xs) % q = (dotI cs xs) % q
  | [], xs => rfl
  | c :: cs, [] => rfl
  | c :: cs, x :: xs => by
    have ih := dot_mod q cs xs
    rw [List.map_cons, dot_cons, dot_cons, Int.add_emod, ih, ← Int.add_emod, Int.add_emod, Int.mul_emod, Int.emod_emod, ← Int.mul_emod, ← Int.add_emod]
theorem part_due {q : Int} (cs xs : List Int) (r : Int) : (dotI (cs.map fun c => c % q) xs - r % q) % q = (dotI cs xs - r) % q := by
  rw [Int.sub_emod, dot_mod, Int.emod_emod, ← Int.sub_emod]
/-- a part of a stripe is a stripe -/
theorem SOk.part {pw : List (Nat × Nat)} {cs : List Int} {r : Int} (h : SOk pw cs r) {x : Nat × Nat} (hx : x ∈ pw) :
    SOk [x] (cs.map fun c => c % ((qOf x : Nat) : Int)) (r % ((qOf x : Nat) : Int)) := by
  have hp := h.per.ok.mem hx
  have p2 := PN_lt _ hp
  have ql := qOf_le h.per.ok hx
  have q0 : (0 : Int) < ((qOf x : Nat) : Int) := by omega
  refine ⟨⟨Pw.single h.per.ok hx, ?_, ?_⟩, by simpa using h.l1, by simpa using h.l3, ?_, ?_, ?_⟩
  · show x.1 * 1 ≤ 1000
    omega
  · rw [mOf_single]
    exact Nat.lt_of_le_of_lt ql.2 h.per.bd
  · intro c hc
    obtain ⟨c0, _, rfl⟩ := List.mem_map.mp hc
    rw [mOf_single]
    exact emodB _ q0
  · rw [mOf_single]
    exact emodB _ q0
  · refine gcdL_one (Pw.single h.per.ok hx) fun y hy => ?_
    obtain rfl := List.mem_singleton.mp hy
    obtain ⟨c, hc, nd⟩ := h.free hx
    refine ⟨c % ((qOf y : Nat) : Int), List.mem_map_of_mem hc, fun z => nd ?_⟩
    have pq : (y.1 : Int) ∣ ((qOf y : Nat) : Int) := by
      rw [Int.natCast_dvd_natCast]
      have := h.per.ok.pos y hx
      refine ⟨y.1 ^ (y.2 - 1), ?_⟩
      show y.1 ^ y.2 = _
      rw [Nat.mul_comm, ← Nat.pow_succ]
      congr 1
      omega
    have e := Int.emod_add_mul_ediv c ((qOf y : Nat) : Int)
    rw [← e]
    exact Int.dvd_add z (Int.dvd_trans pq (Int.dvd_mul_right _ _))
end KL
namespace KL
open PySem PySem.Spec PyProof.Rows L2 RZ StX SrtO Kw KM
/-! ### normal numbers: plain mathematics -/
theorem bez (a b : Nat) : ∃ u v : Int, u * a + v * b = ((Nat.gcd a b : Nat) : Int) := by
  induction a, b using Nat.gcd.induction with
  | H0 n => exact ⟨0, 1, by simp⟩
  | H1 m n hm ih =>
    obtain ⟨u, v, e⟩ := ih
    refine ⟨v - u * ((n / m : Nat) : Int), u, ?_⟩
    rw [Nat.gcd_rec, ← e]
    have d : ((n % m : Nat) : Int) = (n : Int) - (m : Int) * ((n / m : Nat) : Int) := by
      have := Nat.mod_add_div n m
      have h2 : ((n % m : Nat) : Int) + ((m * (n / m) : Nat) : Int) = (n : Int) := by omega
      rw [Int.natCast_mul] at h2
      omega
    rw [d]
    grind
theorem inv_ex {q : Nat} {c : Int} (h : Nat.Coprime q c.natAbs) : ∃ u : Int, (q : Int) ∣ u * c - 1 := by
  obtain ⟨u, v, e⟩ := bez q c.natAbs
  rw [show Nat.gcd q c.natAbs = 1 from h] at e
  rcases Int.natAbs_eq c with k | k
  · refine ⟨v, -u, ?_⟩
    rw [k]
    have e' : u * (q : Int) + v * (c.natAbs : Int) = 1 := e
    grind
  · refine ⟨-v, -u, ?_⟩
    rw [k]
    have e' : u * (q : Int) + v * (c.natAbs : Int) = 1 := e
    grind
theorem emod_of_sub {m a b : Int} (h : m ∣ a - b) : a % m = b % m := (Int.emod_eq_emod_iff_emod_sub_eq_zero).mpr (Int.emod_eq_zero_of_dvd h)
theorem sub_of_emod {m a b : Int} (h : a % m = b % m) : m ∣ a - b := Int.dvd_of_emod_eq_zero ((Int.emod_eq_emod_iff_emod_sub_eq_zero).mp h)
theorem dvd_nat {m : Nat} {z : Int} : (m : Int) ∣ z ↔ m ∣ z.natAbs := Int.ofNat_dvd_left
theorem m_dvd {pw : List (Nat × Nat)} (h : Pw pw) {z : Int} (hq : ∀ x ∈ pw, ((qOf x : Nat) : Int) ∣ z) : ((mOf pw : Nat) : Int) ∣ z :=
  dvd_nat.mpr ((parts_dvd h).mp fun x hx => dvd_nat.mp (hq x hx))
theorem q_dvd {pw : List (Nat × Nat)} (h : Pw pw) {x : Nat × Nat} (hx : x ∈ pw) {z : Int} (hz : ((mOf pw : Nat) : Int) ∣ z) : ((qOf x : Nat) : Int) ∣ z :=
  Int.dvd_trans (Int.natCast_dvd_natCast.mpr (part_dvd_mOf h hx)) hz
theorem p_dvd {pw : List (Nat × Nat)} (h : Pw pw) {x : Nat × Nat} (hx : x ∈ pw) {z : Int} (hz : ((qOf x : Nat) : Int) ∣ z) : (x.1 : Int) ∣ z := by
  refine Int.dvd_trans (Int.natCast_dvd_natCast.mpr ?_) hz
  have := h.pos x hx
  exact Nat.dvd_trans (by rw [Nat.pow_one]; exact Nat.dvd_refl _) (Nat.pow_dvd_pow x.1 this)
theorem q_cop {x : Nat × Nat} (hp : x.1 ∈ PN) {c : Int} (nd : ¬ (x.1 : Int) ∣ c) : Nat.Coprime (qOf x) c.natAbs := cop_pow (cop_of hp fun z => nd (dvd_nat.mpr z)) _
theorem q_of_mul {x : Nat × Nat} (hp : x.1 ∈ PN) {a c : Int} (nd : ¬ (x.1 : Int) ∣ c) (h : ((qOf x : Nat) : Int) ∣ a * c) : ((qOf x : Nat) : Int) ∣ a := by
  have h := dvd_nat.mp h
  rw [Int.natAbs_mul] at h
  exact dvd_nat.mpr ((q_cop hp nd).dvd_of_dvd_mul_right h)
theorem p_of_mul {p : Nat} (hp : p ∈ PN) {a c : Int} (nd : ¬ (p : Int) ∣ c) (h : (p : Int) ∣ a * c) : (p : Int) ∣ a := by
  have h := dvd_nat.mp h
  rw [Int.natAbs_mul] at h
  exact dvd_nat.mpr ((cop_of hp fun z => nd (dvd_nat.mpr z)).dvd_of_dvd_mul_right h)
theorem p_one {p : Nat} (hp : p ∈ PN) : ¬ (p : Int) ∣ 1 := by
  have := PN_lt p hp
  intro z
  have := Int.le_of_dvd (by decide) z
  omega
theorem crt : ∀ {pw : List (Nat × Nat)}, Pw pw → ∀ t : Nat × Nat → Int, ∃ u : Int, ∀ x ∈ pw, ((qOf x : Nat) : Int) ∣ u - t x
  | [], _, _ => ⟨0, fun _ h => absurd h List.not_mem_nil⟩
  | x :: r, hw, t => by
    obtain ⟨u', hu⟩ := crt hw.tail t
    have hx := hw.mem List.mem_cons_self
    have c : Nat.Coprime (qOf x) (mOf r) := by
      refine cop_pow (cop_of hx fun d => ?_) _
      exact (List.nodup_cons.mp hw.nodup).1 ((dvd_mOf hx hw.tail).mp d)
    obtain ⟨a, b, e⟩ := bez (qOf x) (mOf r)
    rw [show Nat.gcd (qOf x) (mOf r) = 1 from c] at e
    have e : a * ((qOf x : Nat) : Int) + b * ((mOf r : Nat) : Int) = 1 := e
    refine ⟨t x * (b * ((mOf r : Nat) : Int)) + u' * (a * ((qOf x : Nat) : Int)), fun y hy => ?_⟩
    rcases List.mem_cons.mp hy with rfl | hy
    · exact ⟨(u' - t y) * a, by grind⟩
    · obtain ⟨k, hk⟩ := hu y hy
      obtain ⟨l, hl⟩ := Int.natCast_dvd_natCast.mpr (part_dvd_mOf hw.tail hy)
      have hl : ((mOf r : Nat) : Int) = ((qOf y : Nat) : Int) * l := hl
      exact ⟨(t x - u') * b * l + k, by grind⟩
/-- the first of the numbers that the prime does not divide -/
structure IsFst (p : Nat) (cs : List Int) (k : Nat) (c : Int) : Prop where
  at_ : cs[k]? = some c
  nd : ¬ (p : Int) ∣ c
  ahead : ∀ (j : Nat) (b : Int), j < k → cs[j]? = some b → (p : Int) ∣ b
theorem IsFst.uniq {p : Nat} {cs : List Int} {k k' : Nat} {c c' : Int} (h : IsFst p cs k c) (h' : IsFst p cs k' c') : k = k' ∧ c = c' := by
  have e : k = k' := by
    rcases Nat.lt_trichotomy k k' with z | z | z
    · exact absurd (h'.ahead k c z h.at_) h.nd
    · exact z
    · exact absurd (h.ahead k' c' z h'.at_) h'.nd
  subst e
  exact ⟨rfl, Option.some.inj (h.at_.symm.trans h'.at_)⟩
theorem fst_ex {p : Nat} : ∀ {cs : List Int}, (∃ c ∈ cs, ¬ (p : Int) ∣ c) → ∃ k c, IsFst p cs k c
  | [], h => by
    obtain ⟨c, hc, _⟩ := h
    exact absurd hc List.not_mem_nil
  | b :: r, h => by
    by_cases d : (p : Int) ∣ b
    · obtain ⟨c, hc, nd⟩ := h
      have hr : ∃ c ∈ r, ¬ (p : Int) ∣ c := by
        rcases List.mem_cons.mp hc with rfl | hc
        · exact absurd d nd
        · exact ⟨c, hc, nd⟩
      obtain ⟨k, c, i⟩ := fst_ex hr
      refine ⟨k + 1, c, i.at_, i.nd, fun j z hj e => ?_⟩
      cases j with
      | zero =>
        cases e
        exact d
      | succ j => exact i.ahead j z (by omega) e
    · exact ⟨0, b, rfl, d, fun j _ hj _ => absurd hj (Nat.not_lt_zero _)⟩
abbrev Free (pw : List (Nat × Nat)) (cs : List Int) : Prop := ∀ x ∈ pw, ∃ c ∈ cs, ¬ (x.1 : Int) ∣ c
def IsU (pw : List (Nat × Nat)) (cs : List Int) (u : Int) : Prop := ∀ x ∈ pw, ∀ k c, IsFst x.1 cs k c → ((qOf x : Nat) : Int) ∣ u * c - 1
theorem isU_ex {pw : List (Nat × Nat)} (h : Pw pw) {cs : List Int} (f : Free pw cs) : ∃ u, IsU pw cs u := by
  have ex : ∀ x : Nat × Nat, ∃ t : Int, x ∈ pw → ∀ k c, IsFst x.1 cs k c → ((qOf x : Nat) : Int) ∣ t * c - 1 := by
    intro x
    by_cases hx : x ∈ pw
    · obtain ⟨k, c, i⟩ := fst_ex (f x hx)
      obtain ⟨t, ht⟩ := inv_ex (q_cop (h.mem hx) i.nd)
      refine ⟨t, fun _ k' c' i' => ?_⟩
      obtain ⟨rfl, rfl⟩ := i.uniq i'
      exact ht
    · exact ⟨0, fun z => absurd z hx⟩
  obtain ⟨u, hu⟩ := crt h fun x => Classical.choose (ex x)
  refine ⟨u, fun x hx k c i => ?_⟩
  obtain ⟨a, ha⟩ := hu x hx
  obtain ⟨b, hb⟩ := Classical.choose_spec (ex x) hx k c i
  exact ⟨a * c + b, by grind⟩
theorem IsU.unit {pw : List (Nat × Nat)} (h : Pw pw) {cs : List Int} (f : Free pw cs) {u : Int} (hu : IsU pw cs u) {x : Nat × Nat} (hx : x ∈ pw) : ¬ (x.1 : Int) ∣ u := by
  obtain ⟨k, c, i⟩ := fst_ex (f x hx)
  intro z
  have := p_dvd h hx (hu x hx k c i)
  have d := Int.dvd_sub (Int.dvd_mul_of_dvd_left (c := c) z) this
  rw [show u * c - (u * c - 1) = 1 by omega] at d
  exact p_one (h.mem hx) d
theorem IsU.uniq {pw : List (Nat × Nat)} (h : Pw pw) {cs : List Int} (f : Free pw cs) {u v : Int} (hu : IsU pw cs u) (hv : IsU pw cs v) : ((mOf pw : Nat) : Int) ∣ u - v := by
  refine m_dvd h fun x hx => ?_
  obtain ⟨k, c, i⟩ := fst_ex (f x hx)
  refine q_of_mul (h.mem hx) i.nd ?_
  have d := Int.dvd_sub (hu x hx k c i) (hv x hx k c i)
  rw [show u * c - 1 - (v * c - 1) = (u - v) * c by grind] at d
  exact d
noncomputable def nfU (pw : List (Nat × Nat)) (cs : List Int) : Int := open Classical in if h : ∃ u, IsU pw cs u then Classical.choose h else 0
theorem nfU_is {pw : List (Nat × Nat)} (h : Pw pw) {cs : List Int} (f : Free pw cs) : IsU pw cs (nfU pw cs) := by
  unfold nfU
  have e := isU_ex h f
  rw [dif_pos e]
  exact Classical.choose_spec e
/-- all numbers times u by m -/
def mulM (m : Nat) (u : Int) (cs : List Int) : List Int := cs.map fun c => (u * c) % (m : Int)
noncomputable def nfC (pw : List (Nat × Nat)) (cs : List Int) : List Int := mulM (mOf pw) (nfU pw cs) cs
noncomputable def nfR (pw : List (Nat × Nat)) (cs : List Int) (r : Int) : Int := (nfU pw cs * r) % ((mOf pw : Nat) : Int)
theorem mul_same {m u v : Int} (h : m ∣ u - v) (c : Int) : (u * c) % m = (v * c) % m := by
  refine emod_of_sub ?_
  rw [← Int.sub_mul]
  exact Int.dvd_mul_of_dvd_left h
theorem nf_of {pw : List (Nat × Nat)} (h : Pw pw) {cs : List Int} (f : Free pw cs) {u : Int} (hu : IsU pw cs u) : mulM (mOf pw) u cs = nfC pw cs ∧ ∀ r, (u * r) % ((mOf pw : Nat) : Int) = nfR pw cs r := by
  have d := hu.uniq h f (nfU_is h f)
  exact ⟨List.map_congr_left fun c _ => mul_same d c, fun r => mul_same d r⟩
theorem nfC_len (pw : List (Nat × Nat)) (cs : List Int) : (nfC pw cs).length = cs.length := List.length_map _
theorem mem_mulM {m : Nat} (hm : 1 ≤ m) {u : Int} {cs : List Int} {c : Int} (h : c ∈ mulM m u cs) : 0 ≤ c ∧ c < m := by
  obtain ⟨b, _, rfl⟩ := List.mem_map.mp h
  exact ⟨Int.emod_nonneg _ (by omega), Int.emod_lt_of_pos _ (by omega)⟩
theorem p_emod {pw : List (Nat × Nat)} (h : Pw pw) {x : Nat × Nat} (hx : x ∈ pw) (z : Int) : (x.1 : Int) ∣ z % ((mOf pw : Nat) : Int) ↔ (x.1 : Int) ∣ z := by
  have pm : (x.1 : Int) ∣ ((mOf pw : Nat) : Int) := p_dvd h hx (Int.natCast_dvd_natCast.mpr (part_dvd_mOf h hx))
  have e := Int.emod_add_mul_ediv z ((mOf pw : Nat) : Int)
  constructor
  · intro d
    rw [← e]
    exact Int.dvd_add d (Int.dvd_mul_of_dvd_left pm)
  · intro d
    have : z % ((mOf pw : Nat) : Int) = z - ((mOf pw : Nat) : Int) * (z / ((mOf pw : Nat) : Int)) := by omega
    rw [this]
    exact Int.dvd_sub d (Int.dvd_mul_of_dvd_left pm)
/-- the first place stays where all numbers are multiplied by a unit -/
theorem fst_mul {pw : List (Nat × Nat)} (h : Pw pw) {x : Nat × Nat} (hx : x ∈ pw) {u : Int} (nu : ¬ (x.1 : Int) ∣ u) {cs : List Int} {k : Nat} {c : Int} (i : IsFst x.1 cs k c) : IsFst x.1 (mulM (mOf pw) u cs) k ((u * c) % ((mOf pw : Nat) : Int)) := by
  refine ⟨?_, ?_, fun j b hj e => ?_⟩
  · unfold mulM
    rw [List.getElem?_map, i.at_]
    rfl
  · rw [p_emod h hx]
    intro z
    rw [Int.mul_comm] at z
    exact i.nd (p_of_mul (h.mem hx) nu z)
  · unfold mulM at e
    rw [List.getElem?_map] at e
    obtain ⟨d, hd, rfl⟩ := Option.map_eq_some_iff.mp e
    rw [p_emod h hx]
    exact Int.dvd_mul_of_dvd_right (i.ahead j d hj hd)
theorem free_mul {pw : List (Nat × Nat)} (h : Pw pw) {u : Int} (nu : ∀ x ∈ pw, ¬ (x.1 : Int) ∣ u) {cs : List Int} (f : Free pw cs) : Free pw (mulM (mOf pw) u cs) := by
  intro x hx
  obtain ⟨k, c, i⟩ := fst_ex (f x hx)
  have j := fst_mul h hx (nu x hx) i
  exact ⟨_, List.mem_of_getElem? j.at_, j.nd⟩
theorem nf_free {pw : List (Nat × Nat)} (h : Pw pw) {cs : List Int} (f : Free pw cs) : Free pw (nfC pw cs) := free_mul h (fun _ hx => (nfU_is h f).unit h f hx) f
/-- in the normal numbers the first one is 1 by the prime power -/
theorem nf_one {pw : List (Nat × Nat)} (h : Pw pw) {cs : List Int} (f : Free pw cs) : IsU pw (nfC pw cs) 1 := by
  intro x hx k c i
  obtain ⟨k0, c0, i0⟩ := fst_ex (f x hx)
  obtain ⟨rfl, rfl⟩ := i.uniq (fst_mul h hx ((nfU_is h f).unit h f hx) i0)
  have d := nfU_is h f x hx _ _ i0
  have e := Int.emod_add_mul_ediv (nfU pw cs * c0) ((mOf pw : Nat) : Int)
  have dm : ((qOf x : Nat) : Int) ∣ ((mOf pw : Nat) : Int) := Int.natCast_dvd_natCast.mpr (part_dvd_mOf h hx)
  have d2 : ((qOf x : Nat) : Int) ∣ ((mOf pw : Nat) : Int) * (nfU pw cs * c0 / ((mOf pw : Nat) : Int)) := Int.dvd_mul_of_dvd_left dm
  have d3 := Int.dvd_sub d d2
  rw [Int.one_mul]
  rw [show nfU pw cs * c0 - 1 - ((mOf pw : Nat) : Int) * (nfU pw cs * c0 / ((mOf pw : Nat) : Int)) = (nfU pw cs * c0) % ((mOf pw : Nat) : Int) - 1 by omega] at d3
  exact d3
theorem mulM_one {m : Nat} {cs : List Int} (c0 : ∀ c ∈ cs, 0 ≤ c ∧ c < m) : mulM m 1 cs = cs := by
  unfold mulM
  rw [show cs = cs.map id by simp]
  simp only [List.map_map]
  refine List.map_congr_left fun c hc => ?_
  have := c0 c (by simpa using hc)
  show (1 * c) % (m : Int) = c
  rw [Int.one_mul]
  exact Int.emod_eq_of_lt this.1 this.2
/-- numbers that are normal are their own normal numbers -/
theorem nf_self {pw : List (Nat × Nat)} (h : Pw pw) {cs : List Int} (f : Free pw cs) (c0 : ∀ c ∈ cs, 0 ≤ c ∧ c < (mOf pw : Nat)) (hu : IsU pw cs 1) : nfC pw cs = cs ∧ ∀ r : Int, 0 ≤ r → r < (mOf pw : Nat) → nfR pw cs r = r := by
  obtain ⟨e1, e2⟩ := nf_of h f hu
  refine ⟨by rw [← e1]; exact mulM_one c0, fun r r0 r1 => ?_⟩
  rw [← e2, Int.one_mul]
  exact Int.emod_eq_of_lt r0 r1
theorem nfC_bd {pw : List (Nat × Nat)} (h : Pw pw) (cs : List Int) : ∀ c ∈ nfC pw cs, 0 ≤ c ∧ c < (mOf pw : Nat) := fun _ hc => mem_mulM (mOf_pos h) hc
theorem nfR_bd {pw : List (Nat × Nat)} (h : Pw pw) (cs : List Int) (r : Int) : 0 ≤ nfR pw cs r ∧ nfR pw cs r < (mOf pw : Nat) := by
  have := mOf_pos h
  exact ⟨Int.emod_nonneg _ (by omega), Int.emod_lt_of_pos _ (by omega)⟩
theorem nf_idem {pw : List (Nat × Nat)} (h : Pw pw) {cs : List Int} (f : Free pw cs) (r : Int) : nfC pw (nfC pw cs) = nfC pw cs ∧ nfR pw (nfC pw cs) (nfR pw cs r) = nfR pw cs r := by
  obtain ⟨e1, e2⟩ := nf_self h (nf_free h f) (nfC_bd h cs) (nf_one h f)
  exact ⟨e1, e2 _ (nfR_bd h cs r).1 (nfR_bd h cs r).2⟩
/-- all products across are alike by m -/
def Cross (m : Nat) (a b : List Int) : Prop := ∀ (i j : Nat) (x y z w : Int), a[i]? = some x → a[j]? = some y → b[i]? = some z → b[j]? = some w → (m : Int) ∣ x * w - y * z
theorem mulM_at {m : Nat} {u : Int} {cs : List Int} {i : Nat} {c : Int} (h : cs[i]? = some c) : (mulM m u cs)[i]? = some ((u * c) % (m : Int)) := by
  unfold mulM
  rw [List.getElem?_map, h]
  rfl
theorem unit_drop {pw : List (Nat × Nat)} (h : Pw pw) {u : Int} (nu : ∀ x ∈ pw, ¬ (x.1 : Int) ∣ u) {z : Int} (d : ((mOf pw : Nat) : Int) ∣ u * z) : ((mOf pw : Nat) : Int) ∣ z := by
  refine m_dvd h fun x hx => q_of_mul (h.mem hx) (nu x hx) ?_
  rw [Int.mul_comm]
  exact q_dvd h hx d
theorem cross_of_rows {pw : List (Nat × Nat)} (h : Pw pw) {u v : Int} (nu : ∀ x ∈ pw, ¬ (x.1 : Int) ∣ u) {a b : List Int} (e : mulM (mOf pw) u a = mulM (mOf pw) v b) : Cross (mOf pw) a b := by
  intro i j x y z w hx hy hz hw
  have e1 : (u * x) % ((mOf pw : Nat) : Int) = (v * z) % ((mOf pw : Nat) : Int) := by
    have := mulM_at (m := mOf pw) (u := u) hx
    rw [e, mulM_at hz] at this
    exact (Option.some.inj this).symm
  have e2 : (u * y) % ((mOf pw : Nat) : Int) = (v * w) % ((mOf pw : Nat) : Int) := by
    have := mulM_at (m := mOf pw) (u := u) hy
    rw [e, mulM_at hw] at this
    exact (Option.some.inj this).symm
  refine unit_drop h nu ?_
  obtain ⟨k, hk⟩ := sub_of_emod e1
  obtain ⟨l, hl⟩ := sub_of_emod e2
  exact ⟨k * w - l * z, by grind⟩
theorem rows_of_cross {pw : List (Nat × Nat)} (h : Pw pw) {cs ds : List Int} {r s : Int} (hl : cs.length = ds.length) (f : Free pw cs) (g : Free pw ds) {u v : Int} (hu : IsU pw cs u) (hv : IsU pw ds v) (X : Cross (mOf pw) (cs ++ [r]) (ds ++ [s])) :
    mulM (mOf pw) u (cs ++ [r]) = mulM (mOf pw) v (ds ++ [s]) := by
  refine List.ext_getElem? fun i => ?_
  unfold mulM
  rw [List.getElem?_map, List.getElem?_map]
  cases ea : (cs ++ [r])[i]? with
  | none =>
    have : (ds ++ [s])[i]? = none := by
      rw [List.getElem?_eq_none_iff] at ea ⊢
      simpa [← hl] using ea
    rw [this]
    rfl
  | some x =>
    have hi : i < (ds ++ [s]).length := by
      have := (List.getElem?_eq_some_iff.mp ea).1
      simpa [← hl] using this
    obtain ⟨z, eb⟩ : ∃ z, (ds ++ [s])[i]? = some z := ⟨_, List.getElem?_eq_getElem hi⟩
    rw [eb]
    show some _ = some _
    congr 1
    refine emod_of_sub (m_dvd h fun q hq => ?_)
    obtain ⟨k, c, ic⟩ := fst_ex (f q hq)
    have hk : k < ds.length := by
      have := (List.getElem?_eq_some_iff.mp ic.at_).1
      omega
    have ak : (cs ++ [r])[k]? = some c := by
      rw [List.getElem?_append_left (by omega)]
      exact ic.at_
    obtain ⟨d, ed⟩ : ∃ d, ds[k]? = some d := ⟨_, List.getElem?_eq_getElem hk⟩
    have bk : (ds ++ [s])[k]? = some d := by
      rw [List.getElem?_append_left hk]
      exact ed
    have hp := h.mem hq
    have nd : ¬ (q.1 : Int) ∣ d := by
      intro pd
      obtain ⟨b, hb, nb⟩ := g q hq
      obtain ⟨j, hj, ej⟩ := List.mem_iff_getElem.mp hb
      have bj : (ds ++ [s])[j]? = some b := by rw [List.getElem?_append_left hj, ← ej]; exact List.getElem?_eq_getElem hj
      have aj : (cs ++ [r])[j]? = some (cs[j]'(by omega)) := by rw [List.getElem?_append_left (by omega)]; exact List.getElem?_eq_getElem _
      have t := p_dvd h hq (q_dvd h hq (X k j c _ d b ak aj bk bj))
      have t2 := Int.dvd_add t (Int.dvd_mul_of_dvd_right (b := cs[j]'(by omega)) pd)
      rw [show c * b - cs[j]'(by omega) * d + cs[j]'(by omega) * d = b * c by grind] at t2
      exact nb (p_of_mul hp ic.nd t2)
    have id : IsFst q.1 ds k d := by
      refine ⟨ed, nd, fun j b hj e => ?_⟩
      have bj : (ds ++ [s])[j]? = some b := by rw [List.getElem?_append_left (by omega)]; exact e
      have aj : (cs ++ [r])[j]? = some (cs[j]'(by omega)) := by rw [List.getElem?_append_left (by omega)]; exact List.getElem?_eq_getElem _
      have pa := ic.ahead j _ hj (List.getElem?_eq_getElem (by omega))
      have t := p_dvd h hq (q_dvd h hq (X k j c _ d b ak aj bk bj))
      have t2 := Int.dvd_add t (Int.dvd_mul_of_dvd_left (c := d) pa)
      rw [show c * b - cs[j]'(by omega) * d + cs[j]'(by omega) * d = b * c by grind] at t2
      exact p_of_mul hp ic.nd t2
    have q1 := hu q hq k c ic
    have q2 := hv q hq k d id
    have q3 := q_dvd h hq (X i k x c z d ea ak eb bk)
    have fin : ((qOf q : Nat) : Int) ∣ (u * x - v * z) * d * c := by
      obtain ⟨k1, e1⟩ := q1
      obtain ⟨k2, e2⟩ := q2
      obtain ⟨k3, e3⟩ := q3
      exact ⟨k1 * x * d - k2 * z * c + k3, by grind⟩
    exact q_of_mul hp nd (q_of_mul hp ic.nd fin)
theorem mulM_append (m : Nat) (u : Int) (cs : List Int) (r : Int) : mulM m u (cs ++ [r]) = mulM m u cs ++ [(u * r) % (m : Int)] := by
  unfold mulM
  rw [List.map_append]
  rfl
/-- two stripes are told alike exactly if all products across are alike -/
theorem nf_iff {pw : List (Nat × Nat)} (h : Pw pw) {cs ds : List Int} {r s : Int} (hl : cs.length = ds.length) (f : Free pw cs) (g : Free pw ds) :
    (nfC pw cs = nfC pw ds ∧ nfR pw cs r = nfR pw ds s) ↔ Cross (mOf pw) (cs ++ [r]) (ds ++ [s]) := by
  have hu := nfU_is h f
  have hv := nfU_is h g
  constructor
  · rintro ⟨e1, e2⟩
    refine cross_of_rows h (u := nfU pw cs) (v := nfU pw ds) (fun x hx => hu.unit h f hx) ?_
    rw [mulM_append, mulM_append]
    exact congr (congrArg _ e1) (congrArg (fun z => [z]) e2)
  · intro X
    have e := rows_of_cross h hl f g hu hv X
    rw [mulM_append, mulM_append] at e
    obtain ⟨e1, e2⟩ := List.append_inj e (by simp [mulM, hl])
    exact ⟨e1, (List.cons.inj e2).1⟩
end KL
namespace KL
open PySem PySem.Spec PyProof.Rows L2 RZ StX SrtO Kw KM
theorem part_of {pw : List (Nat × Nat)} (h : Pw pw) {x : Nat × Nat} (hx : x ∈ pw) {k : Nat} (h1 : x.1 ^ k ∣ mOf pw) (h2 : ¬ x.1 ^ (k + 1) ∣ mOf pw) : k = x.2 := by
  have p2 := PN_lt _ (h.mem hx)
  have dv := part_dvd_mOf h hx
  rcases Nat.lt_trichotomy k x.2 with c | c | c
  · exact absurd (Nat.dvd_trans (Nat.pow_dvd_pow x.1 c) dv) h2
  · exact c
  · have d : x.1 ^ (x.2 + 1) ∣ mOf pw := Nat.dvd_trans (Nat.pow_dvd_pow x.1 c) h1
    obtain ⟨e, he⟩ := dv
    have q0 : 0 < x.1 ^ x.2 := Nat.pow_pos (by omega)
    rw [he, Nat.pow_succ] at d
    have d2 : x.1 ∣ e := Nat.dvd_of_mul_dvd_mul_left q0 d
    have e2 : mOf pw / qOf x = e := by rw [he]; exact Nat.mul_div_cancel_left _ q0
    rw [← e2] at d2
    exact absurd rfl ((cof_dvd h hx hx).mp d2)
theorem pw_ne {pw : List (Nat × Nat)} (h : Pw pw) {x y : Nat × Nat} {i j : Nat} (hx : pw[i]? = some x) (hy : pw[j]? = some y) (ne : j ≠ i) : y.1 ≠ x.1 := by
  intro e
  have n := h.nodup
  obtain ⟨hi, ex⟩ := List.getElem?_eq_some_iff.mp hx
  obtain ⟨hj, ey⟩ := List.getElem?_eq_some_iff.mp hy
  have h1 : (pw.map (·.1))[j]'(by simpa using hj) = (pw.map (·.1))[i]'(by simpa using hi) := by
    rw [List.getElem_map, List.getElem_map, ex, ey]
    exact e
  exact ne ((List.getElem_inj n).mp h1)
theorem cof_q {pw : List (Nat × Nat)} (h : Pw pw) {x y : Nat × Nat} (hx : x ∈ pw) (hy : y ∈ pw) (ne : y.1 ≠ x.1) : qOf y ∣ mOf pw / qOf x := by
  have hxP := h.mem hx
  have hyP := h.mem hy
  obtain ⟨e, he⟩ := part_dvd_mOf h hx
  have p2 := PN_lt _ hxP
  have q0 : 0 < qOf x := Nat.pow_pos (by omega)
  have he : mOf pw = qOf x * e := he
  have e2 : mOf pw / qOf x = e := by rw [he]; exact Nat.mul_div_cancel_left _ q0
  rw [e2]
  have d : qOf y ∣ qOf x * e := by
    rw [← he]
    exact part_dvd_mOf h hy
  have c : Nat.Coprime (qOf y) (qOf x) := by
    refine cop_pow (cop_of hyP fun z => ?_) _
    exact ne (eq_of_dvd hyP hxP (dvd_pow_of hyP z))
  exact c.dvd_of_dvd_mul_left d
section
variable {P : Program} {w : World} {K : PySem.W.Frag} {mg : Str → Option Value} {base : Heap}
/-! ### inverse -/
def sp_inverse : Sp := fun vs H Q _ => ∃ (a : Int) (q : Nat), vs = [.int a, .int (q : Int)] ∧ 2 ≤ q ∧ q < 2 ^ 2000 ∧ Nat.Coprime q a.natAbs ∧
  ∀ (v : Int) (H' : Hp), Same H H' → 0 ≤ v → v < q → (q : Int) ∣ v * a - 1 → Q (.int v) H'
theorem ok_inverse (T : Txt K mg) : FnOk P w K mg base CX0 1 T.a_inverse T.d_inverse ["number", "modulus"] sp_inverse := by
  refine T.F_inverse.ok sc_inverse (fun vs H Q E h => ?_) (fun cdv A outer s H vs Q E hr h => ?_)
  · obtain ⟨a, q, rfl, _⟩ := h
    rfl
  obtain ⟨a, q, rfl, q2, qb, cop, k⟩ := h
  refine ⟨_, pss_cons (ps_par (i := 2) (j := 3) (by rfl) sc_inverse.nd rfl rfl (by decide) rfl rfl (pa_cons (pv 1) (pa_cons (pe_op op_mod (pv 0) (pv 1)) pa_nil)) (by rfl))
    (pss_cons (ps_asg (pe_tup (pa_cons pe_int (pa_cons pe_int pa_nil))) (pg_tup (by rfl) (pgs_cons (pg_name (i := 4) sc_inverse.nd rfl (Or.inl rfl)) (pgs_cons (pg_name (i := 5) sc_inverse.nd rfl (Or.inl rfl)) pgs_nil))))
    (pss_cons (ps_while PassesOwn.never (pt_cmpR op_gt (pv 3) pe_int (nomark _)) (pss_cons (ps_set (i := 6) sc_inverse.nd rfl (Or.inl rfl) (pe_op op_fdivW (pv 2) (pv 3)))
        (pss_cons (ps_par (i := 2) (j := 3) (by rfl) sc_inverse.nd rfl rfl (by decide) rfl rfl (pa_cons (pv 3) (pa_cons (pe_op op_sub (pv 2) (pe_op op_mulW (pv 6) (pv 3))) pa_nil)) (by rfl))
        (pss_one (ps_par (i := 4) (j := 5) (by rfl) sc_inverse.nd rfl rfl (by decide) rfl rfl (pa_cons (pv 5) (pa_cons (pe_op op_sub (pv 4) (pe_op op_mulW (pv 6) (pv 5))) pa_nil)) (by rfl))))))
    (pss_one (ps_ret (pe_op op_mod (pv 5) (pv 1)))))), ?_⟩
  have q0 : (0 : Int) < (q : Int) := by omega
  refine ⟨_, rfl, _, rfl, _, rfl, _, _, rfl, rfl, q0, _, _, rfl, ?_⟩
  refine ⟨(by show 2 ≤ sizeLine; decide), fun t nt => ?_⟩
  have s1 := same_new nt (.tup [.int 0, .int 1])
  refine ⟨t, _, rfl, SqT.of upd_same, rfl, _, _, rfl, _, _, rfl, rfl, ?_⟩
  generalize upd H t (.tup [.int 0, .int 1]) = H1 at s1
  have em := emodB a q0
  obtain ⟨n0, hn0⟩ : ∃ n : Nat, a % (q : Int) = (n : Int) := ⟨(a % (q : Int)).toNat, by omega⟩
  have ea := Int.emod_add_mul_ediv a (q : Int)
  have gn : Nat.Coprime q n0 := by
    have hd : ∀ d : Nat, d ∣ q → d ∣ n0 → d ∣ a.natAbs := by
      intro d h1 h2
      refine Int.ofNat_dvd_left.mp ?_
      rw [← ea, hn0]
      exact Int.dvd_add (Int.natCast_dvd_natCast.mpr h2) (Int.dvd_mul_of_dvd_left (Int.natCast_dvd_natCast.mpr h1))
    have := Nat.dvd_gcd (Nat.gcd_dvd_left q n0) (hd _ (Nat.gcd_dvd_left q n0) (Nat.gcd_dvd_right q n0))
    rw [show Nat.gcd q a.natAbs = 1 from cop] at this
    exact Nat.dvd_one.mp this
  have n1 : 1 ≤ n0 := by
    rcases Nat.eq_zero_or_pos n0 with z | z
    · rw [z] at gn
      have : Nat.gcd q 0 = 1 := gn
      rw [Nat.gcd_zero_right] at this
      omega
    · exact z
  refine ⟨fun n σ H' => ∃ (b : Nat) (f fb : Int) (tm : Option V), σ = [some (.int a), some (.int (q : Int)), some (.int (b : Int)), some (.int (n : Int)), some (.int fb), some (.int f), tm] ∧ H1 = H' ∧
    1 ≤ n ∧ n ≤ b ∧ b < 2 ^ 2000 ∧ Nat.Coprime b n ∧ (q : Int) ∣ f * a - n ∧ (q : Int) ∣ fb * a - b ∧ f.natAbs * b + fb.natAbs * n ≤ q, ⟨n0, q, 1, 0, none, ?_, rfl, n1, by omega, qb, gn, ?_, ?_, by simp⟩, ?_⟩
  · rw [← hn0]
    rfl
  · exact ⟨a / (q : Int), by omega⟩
  · exact ⟨-1, by omega⟩
  rintro n σ H' ⟨b, f, fb, tm, rfl, rfl, n1, nb, bb, g, d1, d2, bd⟩
  refine ⟨_, rfl, _, _, rfl, rfl, _, rfl, ite2 (fun c => ?_) (fun c => ?_)⟩
  · have c : 1 < n := by
      have := of_decide_eq_true c
      omega
    have lt : b % n < n := Nat.mod_lt _ (by omega)
    have dm := Nat.div_add_mod b n
    have m1 : 1 ≤ b % n := by
      rcases Nat.eq_zero_or_pos (b % n) with z | z
      · have : n ∣ b := Nat.dvd_of_mod_eq_zero z
        have := Nat.dvd_gcd this (Nat.dvd_refl n)
        rw [show Nat.gcd b n = 1 from g] at this
        have := Nat.dvd_one.mp this
        omega
      · exact z
    have e1 : ((b : Int) - (b : Int) / (n : Int) * (n : Int)) = ((b % n : Nat) : Int) := by
      rw [← Int.natCast_ediv, ← Int.natCast_mul, Nat.mul_comm]
      omega
    have fle : f.natAbs ≤ q := by
      have : f.natAbs * 1 ≤ f.natAbs * b := Nat.mul_le_mul_left _ (by omega)
      omega
    have b1 : Bd 2000 (n : Int) := by unfold Bd; omega
    have b2 : Bd 2000 ((b : Int) / (n : Int)) := by
      rw [← Int.natCast_ediv]
      unfold Bd
      rw [Int.natAbs_natCast]
      exact Nat.lt_of_le_of_lt (Nat.div_le_self b n) bb
    have b3 : Bd 2000 f := by unfold Bd; omega
    refine ⟨fun σ H' => ∃ (b' : Nat) (f' fb' : Int) (tm : Option V), σ = [some (.int a), some (.int (q : Int)), some (.int (b' : Int)), some (.int ((b % n : Nat) : Int)), some (.int fb'), some (.int f'), tm] ∧ H1 = H' ∧
      1 ≤ b % n ∧ b % n ≤ b' ∧ b' < 2 ^ 2000 ∧ Nat.Coprime b' (b % n) ∧ (q : Int) ∣ f' * a - ((b % n : Nat) : Int) ∧ (q : Int) ∣ fb' * a - b' ∧ f'.natAbs * b' + fb'.natAbs * (b % n) ≤ q, fun σ' H' z => ⟨b % n, lt, z⟩, ?_⟩
    refine ⟨_, rfl, _, rfl, _, _, rfl, rfl, Bd.divOk (b := 2000) (by omega) b1 (by decide) _, ?_⟩
    refine ⟨_, rfl, _, rfl, _, rfl, _, rfl, _, _, rfl, rfl, b2.mulOk b1 (by decide), _, _, rfl, rfl, _, _, rfl, ?_⟩
    refine ⟨_, rfl, _, rfl, _, rfl, _, rfl, _, _, rfl, rfl, b2.mulOk b3 (by decide), _, _, rfl, rfl, _, _, rfl, ?_⟩
    refine ⟨n, fb - (b : Int) / (n : Int) * f, f, some (.int ((b : Int) / (n : Int))), ?_, rfl, m1, Nat.le_of_lt lt, by omega, ?_, ?_, d1, ?_⟩
    · rw [← e1]
      rfl
    · have : Nat.gcd n (b % n) = 1 := by rw [Nat.gcd_comm, ← Nat.gcd_rec, Nat.gcd_comm]; exact g
      exact this
    · obtain ⟨k1, h1⟩ := d1
      obtain ⟨k2, h2⟩ := d2
      rw [← e1]
      exact ⟨k2 - (b : Int) / (n : Int) * k1, by grind⟩
    · have t1 : (fb - (b : Int) / (n : Int) * f).natAbs ≤ fb.natAbs + (b / n) * f.natAbs := by
        have := Int.natAbs_sub_le fb ((b : Int) / (n : Int) * f)
        rw [Int.natAbs_mul, ← Int.natCast_ediv, Int.natAbs_natCast] at this
        rw [← Int.natCast_ediv]
        exact this
      have t2 := Nat.mul_le_mul_right n t1
      have t3 : (fb.natAbs + b / n * f.natAbs) * n + f.natAbs * (b % n) = f.natAbs * b + fb.natAbs * n := by
        have t4 : f.natAbs * b = f.natAbs * (n * (b / n)) + f.natAbs * (b % n) := by rw [← Nat.mul_add, dm]
        rw [t4, Nat.add_mul]
        have t5 : b / n * f.natAbs * n = f.natAbs * (n * (b / n)) := by
          rw [Nat.mul_comm (b / n) f.natAbs, Nat.mul_assoc, Nat.mul_comm (b / n) n]
        omega
      omega
  · have c : n = 1 := by
      have : ¬ (n : Int) > 1 := fun z => c (decide_eq_true z)
      omega
    subst c
    refine ⟨_, rfl, _, rfl, _, _, rfl, rfl, q0, ?_⟩
    have fb := emodB f q0
    refine k _ _ s1 fb.1 fb.2 ?_
    have e := Int.emod_add_mul_ediv f (q : Int)
    obtain ⟨k1, h1⟩ := d1
    refine ⟨k1 - f / (q : Int) * a, ?_⟩
    have h1 : f * a - 1 = (q : Int) * k1 := h1
    grind
theorem cl_inverse {X : Cx} {p pos : Pos} {e : Expr} {es : List Expr} {t : TA} (T : Txt K mg) (hr : Room 1 X.A) (ha : PA X (e :: es) t) (hg : Gl X "inverse" := by rfl)
    (he : starEach (e :: es) X.env = (false, eval e X.env) :: starEach es X.env := by rfl) (hpl : (backTo pos (starEach es X.env)).any (·.1) = false := by rfl) (hK : X.K = K := by rfl) (hmg : X.mg = mg := by rfl) :
    PE X (.Call (.Name "inverse" p) (e :: es) [] pos) (tCall sp_inverse [] E0 t) := by
  subst hK hmg
  exact pe_call (ok_inverse T) hr hg T.m_inverse T.F_inverse.kp T.b_inverse .nil pass0 ha (by decide) he hpl
/-! ### what is 1 at one prime power and 0 at all others -/
def sp_one_at : Sp := fun vs H Q _ => ∃ (pw : List (Nat × Nat)) (x : Nat × Nat), vs = [.int ((mOf pw : Nat) : Int), .int (x.1 : Int)] ∧ Per pw ∧ x ∈ pw ∧
  ∀ (v : Int) (H' : Hp), Same H H' → 0 ≤ v → v < (mOf pw : Nat) → ((qOf x : Nat) : Int) ∣ v - 1 → (∀ y ∈ pw, y.1 ≠ x.1 → ((qOf y : Nat) : Int) ∣ v) → Q (.int v) H'
theorem ok_one_at (T : Txt K mg) : FnOk P w K mg base CX0 2 T.a_one_at T.d_one_at ["number", "p"] sp_one_at := by
  refine T.F_one_at.ok sc_one_at (fun vs H Q E h => ?_) (fun cdv A outer s H vs Q E hr h => ?_)
  · obtain ⟨pw, x, rfl, _⟩ := h
    rfl
  obtain ⟨pw, x, rfl, hP, hx, k⟩ := h
  refine ⟨_, pss_cons (ps_set (i := 2) sc_one_at.nd rfl (Or.inl rfl) (cl_part_at T (hr.mono (by decide)) (pa_cons (pv 0) (pa_cons (pv 1) pa_nil))))
    (pss_cons (ps_set (i := 3) sc_one_at.nd rfl (Or.inl rfl) (pe_op op_fdivW (pv 0) (pv 2)))
    (pss_one (ps_ret (pe_op op_mulW (pv 3) (cl_inverse T (hr.mono (by decide)) (pa_cons (pv 3) (pa_cons (pv 2) pa_nil))))))), ?_⟩
  have hw := hP.ok
  have hm := mOf_pos hw
  have x2 := PN_lt _ (hw.mem hx)
  have qx := qOf_le hw hx
  have mb := hP.bd
  refine ⟨_, rfl, _, rfl, mOf pw, x.1, rfl, hm, x2.1, x2.2, fun e e1 e2 => ?_⟩
  obtain rfl := part_of hw hx e1 e2
  rw [show x.1 ^ x.2 = qOf x from rfl]
  have q2 : 2 ≤ qOf x := by
    have := hw.pos x hx
    have := Nat.pow_le_pow_right (n := x.1) (by omega) this
    rw [Nat.pow_one] at this
    exact Nat.le_trans x2.1 this
  refine ⟨_, rfl, _, rfl, _, _, rfl, rfl, Bd.divOk (b := 2000) (by omega) (by unfold Bd; omega) (by decide) _, ?_⟩
  dsimp only
  have er : ((mOf pw : Nat) : Int) / ((qOf x : Nat) : Int) = ((mOf pw / qOf x : Nat) : Int) := by rw [Int.natCast_ediv]
  rw [er]
  have rle := Nat.div_le_self (mOf pw) (qOf x)
  have rb : Bd 2000 ((mOf pw / qOf x : Nat) : Int) := by
    unfold Bd
    rw [Int.natAbs_natCast]
    exact Nat.lt_of_le_of_lt rle mb
  have nd : ¬ x.1 ∣ mOf pw / qOf x := fun z => (cof_dvd hw hx hx).mp z rfl
  refine ⟨_, rfl, _, rfl, _, rfl, _, qOf x, rfl, q2, by omega, ?_, fun v H' s v0 v1 dv => ?_⟩
  · rw [Int.natAbs_natCast]
    exact cop_pow (cop_of (hw.mem hx) nd) _
  refine ⟨_, _, rfl, rfl, Bd.mulOk (a := 2000) (b := 2000) rb (by unfold Bd; omega) (by decide), ?_⟩
  have me : qOf x * (mOf pw / qOf x) = mOf pw := Nat.mul_div_cancel' (part_dvd_mOf hw hx)
  refine k _ H' s (Int.mul_nonneg (Int.natCast_nonneg _) v0) ?_ ?_ ?_
  · obtain ⟨n, rfl⟩ : ∃ n : Nat, v = (n : Int) := ⟨v.toNat, by omega⟩
    have hn : n < qOf x := by omega
    have r1 : 0 < mOf pw / qOf x := Nat.div_pos qx.2 (by omega)
    have : mOf pw / qOf x * n < mOf pw / qOf x * qOf x := Nat.mul_lt_mul_of_pos_left hn r1
    rw [Nat.mul_comm _ (qOf x), me] at this
    rw [← Int.natCast_mul]
    omega
  · rw [Int.mul_comm]
    exact dv
  · intro y hy ne
    exact Int.dvd_mul_of_dvd_left (Int.natCast_dvd_natCast.mpr (cof_q hw hx hy ne))
theorem cl_one_at {X : Cx} {p pos : Pos} {e : Expr} {es : List Expr} {t : TA} (T : Txt K mg) (hr : Room 2 X.A) (ha : PA X (e :: es) t) (hg : Gl X "one_at" := by rfl)
    (he : starEach (e :: es) X.env = (false, eval e X.env) :: starEach es X.env := by rfl) (hpl : (backTo pos (starEach es X.env)).any (·.1) = false := by rfl) (hK : X.K = K := by rfl) (hmg : X.mg = mg := by rfl) :
    PE X (.Call (.Name "one_at" p) (e :: es) [] pos) (tCall sp_one_at [] E0 t) := by
  subst hK hmg
  exact pe_call (ok_one_at T) hr hg T.m_one_at T.F_one_at.kp T.b_one_at .nil pass0 ha (by decide) he hpl
/-! ### the first place -/
def sp_first_place (K : PySem.W.Frag) : Sp := fun vs H Q _ => ∃ (a : Addr) (p : Nat) (cs : List Int) (k : Nat) (c : Int), vs = [.ref a, .int (p : Int)] ∧ SqT K H a (cs.map V.int) ∧ 1 ≤ p ∧ cs.length ≤ 3 ∧ IsFst p cs k c ∧
  ∀ H' : Hp, Same H H' → Q (.int (k : Int)) H'
theorem ok_first_place (T : Txt K mg) : FnOk P w K mg base CX0 1 T.a_first_place T.d_first_place ["c", "p"] (sp_first_place K) := by
  refine T.F_first_place.ok sc_first_place (fun vs H Q E h => ?_) (fun cdv A outer s H vs Q E hr h => ?_)
  · obtain ⟨a, p, cs, k, c, rfl, _⟩ := h
    rfl
  obtain ⟨a, p, cs, k, c, rfl, hs, hp, h3, hi, q⟩ := h
  refine ⟨_, pss_one (ps_ret (pe_ix ix_list (pe_lc (own := [("place", 2), ("number", 3)]) (g := gTup K 2 (gCons (gName 2) (gCons (gName 3) gNil))) rfl sc_first_place.nd (pi_enumT (by rfl) T.n_enumerate (pa_cons (pv 0) pa_nil)) (blkOk_by (N := N_first_place) (sc := defScope s_first_place) (by decide +kernel)) (fun _ _ _ _ _ => (pg_tup (by rfl) (pgs_cons (pg_name (i := 2) sc_first_place.nd rfl (Or.inl rfl)) (pgs_cons (pg_name (i := 3) sc_first_place.nd rfl (Or.inl rfl)) pgs_nil)))) (fun _ _ _ _ _ => (pts_one (pt_cmpR op_ne (pe_op op_mod (pv 3) (pv 1)) pe_int (nomark _)))) (fun _ _ _ _ _ => (pv 2))) pe_int (fun _ _ => rfl))), ?_⟩
  have hk : k < cs.length := (List.getElem?_eq_some_iff.mp hi.at_).1
  have p0 : (0 : Int) < (p : Int) := by omega
  refine ⟨_, rfl, a, _, rfl, hs, fun D nD => lc_it (walk_enumT (xs := cs.map V.int)) (fun i H' => Same H H' ∧ ∃ L : List Nat, H' D = some (.lst ((intsN L).map V.int)) ∧ L.length ≤ i ∧ (i ≤ k → L = []) ∧ (k < i → L[0]? = some k)) ⟨same_new nD _, [], upd_same, Nat.le_refl _, fun _ => rfl, fun z => absurd z (Nat.not_lt_zero _)⟩ (fun i H' _ h => h.1.sqt hs) (fun i v H1 H2 hlt h hy => ?_) (fun H1 h => ?_)⟩
  · obtain ⟨s1, L, eL, lL, l0, l1⟩ := h
    obtain ⟨t, x, y, rfl, nt, rfl, ex, ey⟩ := hy
    have ex : V.int (i : Nat) = x := Option.some.inj ex
    subst ex
    have ey : (cs.map V.int)[i]? = some y := ey
    rw [List.getElem?_map] at ey
    obtain ⟨z, hz, rfl⟩ := Option.map_eq_some_iff.mp ey
    have sT := same_new nt (.tup [V.int (i : Nat), V.int z])
    have iff : (p : Int) ∣ z ↔ z % (p : Int) = 0 := Int.dvd_iff_emod_eq_zero
    refine ⟨t, _, rfl, SqT.of upd_same, rfl, _, _, rfl, _, _, rfl, rfl, rfl, ?_⟩
    refine ⟨_, rfl, _, rfl, _, _, rfl, rfl, p0, rfl, _, rfl, ?_⟩
    have e2 := sT _ _ eL
    have s2 := s1.trans sT
    by_cases d : (p : Int) ∣ z
    · have ne : i ≠ k := by
        rintro rfl
        rw [hi.at_] at hz
        cases hz
        exact hi.nd d
      have d0 := iff.mp d
      refine ite2 (fun cc => ?_) (fun cc => ?_)
      · simp [d0] at cc
      · exact ⟨s2, L, e2, by omega, fun z => l0 (by omega), fun z => l1 (by omega)⟩
    · have d0 : ¬ z % (p : Int) = 0 := fun e => d (iff.mpr e)
      have ki : k ≤ i := by
        rcases Nat.lt_or_ge i k with lt | ge
        · exact absurd (hi.ahead i z lt hz) d
        · exact ge
      refine ite2 (fun cc => ?_) (fun cc => ?_)
      · refine ⟨_, rfl, _, e2, ?_, same_upd2 s2 nD, L ++ [i], ?_, ?_, fun z => ?_, fun _ => ?_⟩
        · simp only [List.length_map] at *
          exact Nat.lt_of_lt_of_le (show L.length < 4 by omega) (by decide)
        · rw [upd_same]
          simp [intsN]
        · rw [List.length_append]
          simp
          omega
        · omega
        · rcases Nat.lt_or_ge k i with lt | ge
          · have := l1 lt
            rw [List.getElem?_append_left (by have := (List.getElem?_eq_some_iff.mp this).1; exact this)]
            exact this
          · obtain rfl : i = k := by omega
            rw [l0 (Nat.le_refl _)]
            rfl
      · simp [d0] at cc
  · obtain ⟨s1, L, eL, lL, l0, l1⟩ := h
    rw [List.length_map] at l1
    have := l1 hk
    refine ⟨D, _, 0, .int (k : Int), rfl, rfl, SqL.of eL, atI_nat (j := 0) ?_, q H1 s1⟩
    rw [List.getElem?_map, List.getElem?_map, this]
    rfl
theorem cl_first_place {X : Cx} {p pos : Pos} {e : Expr} {es : List Expr} {t : TA} (T : Txt K mg) (hr : Room 1 X.A) (ha : PA X (e :: es) t) (hg : Gl X "first_place" := by rfl)
    (he : starEach (e :: es) X.env = (false, eval e X.env) :: starEach es X.env := by rfl) (hpl : (backTo pos (starEach es X.env)).any (·.1) = false := by rfl) (hK : X.K = K := by rfl) (hmg : X.mg = mg := by rfl) :
    PE X (.Call (.Name "first_place" p) (e :: es) [] pos) (tCall (sp_first_place K) [] E0 t) := by
  subst hK hmg
  exact pe_call (ok_first_place T) hr hg T.m_first_place T.F_first_place.kp T.b_first_place .nil pass0 ha (by decide) he hpl
end
end KL
namespace KL
open PySem PySem.Spec PyProof.Rows L2 RZ StX SrtO Kw KM
theorem Bd.sum {b n : Nat} {i j : Int} (h : i.natAbs ≤ n * 2 ^ b) (h' : Bd b j) : (i + j).natAbs ≤ (n + 1) * 2 ^ b := by
  have := Int.natAbs_add_le i j
  unfold Bd at h'
  rw [Nat.add_mul, Nat.one_mul]
  omega
section
variable {P : Program} {w : World} {K : PySem.W.Frag} {mg : Str → Option Value} {base : Heap}
/-! ### the factor that makes normal -/
def sp_normal_factor (K : PySem.W.Frag) : Sp := fun vs H Q _ => ∃ (a : Addr) (pw : List (Nat × Nat)) (cs : List Int), vs = [.int ((mOf pw : Nat) : Int), .ref a] ∧ Per pw ∧ SqT K H a (cs.map V.int) ∧ cs.length ≤ 3 ∧ Free pw cs ∧
  ∀ (u : Int) (H' : Hp), Same H H' → IsU pw cs u → Bd 4500 u → Q (.int u) H'
theorem ok_normal_factor (T : Txt K mg) : FnOk P w K mg base CX0 3 T.a_normal_factor T.d_normal_factor ["m", "c"] (sp_normal_factor K) := by
  refine T.F_normal_factor.ok sc_normal_factor (fun vs H Q E h => ?_) (fun cdv A outer s H vs Q E hr h => ?_)
  · obtain ⟨a, pw, cs, rfl, _⟩ := h
    rfl
  obtain ⟨a, pw, cs, rfl, hP, hs, h3, hf, k⟩ := h
  refine ⟨_, pss_one (ps_ret (pe_callB (cr_sum rfl) (by rfl) T.n_sum (by decide +kernel) (pa_cons (pe_lc (own := [("p", 2)]) rfl sc_normal_factor.nd (pi_list (cl_primes_of T (hr.mono (by decide)) (pa_cons (pv 0) pa_nil))) (blkOk_by (N := N_normal_factor) (sc := defScope s_normal_factor) (by decide +kernel)) (fun _ _ _ _ _ => (pg_name (i := 2) sc_normal_factor.nd rfl (Or.inl rfl))) (fun _ _ _ _ _ => pts_nil) (fun _ _ _ _ _ => (pe_op op_mulW (cl_one_at T (hr.mono (by decide)) (pa_cons (pv 0) (pa_cons (pv 2) pa_nil))) (cl_inverse T (hr.mono (by decide)) (pa_cons (pe_ix (ix_tupK (K := K)) (pv 1) (cl_first_place T (hr.mono (by decide)) (pa_cons (pv 1) (pa_cons (pv 2) pa_nil))) (fun _ _ => rfl)) (pa_cons (cl_part_at T (hr.mono (by decide)) (pa_cons (pv 0) (pa_cons (pv 2) pa_nil))) pa_nil)))))) pa_nil))), ?_⟩
  have hw := hP.ok
  have hm := mOf_pos hw
  have mb := hP.bd
  have plen := pw_len hw
  refine ⟨_, rfl, _, rfl, fun l H1 s1 nl el => ?_⟩
  rw [primesOf_mOf hw] at el
  refine ⟨l, rfl, ⟨_, SqL.of el⟩, fun D nD => lc_list (xs := (intsN (pw.map (·.1))).map V.int) (fun i H' => Same H1 H' ∧ ∃ es : List Int, es.length = i ∧ H' D = some (.lst (es.map V.int)) ∧
    (∀ (j : Nat) (y : Nat × Nat), j < i → pw[j]? = some y → ∀ k c, IsFst y.1 cs k c → ((qOf y : Nat) : Int) ∣ es.sum * c - 1) ∧ (∀ (j : Nat) (y : Nat × Nat), i ≤ j → pw[j]? = some y → ((qOf y : Nat) : Int) ∣ es.sum) ∧ es.sum.natAbs ≤ i * 2 ^ 4100)
    ⟨same_new nD _, [], rfl, upd_same, fun j y hj => absurd hj (Nat.not_lt_zero _), fun j y _ _ => Int.dvd_zero _, Nat.zero_le _⟩ (fun i H' _ h => h.1.seq (SqL.of el)) (fun i v H2 hx h => ?_) (fun H2 h => ?_)⟩
  · obtain ⟨s2, es, le, ee, f1, f2, fb⟩ := h
    rw [List.getElem?_map, List.getElem?_map, List.getElem?_map] at hx
    obtain ⟨x, hxp, rfl⟩ : ∃ x, pw[i]? = some x ∧ V.int (x.1 : Int) = v := by
      cases e : pw[i]? with
      | none => rw [e] at hx; cases hx
      | some y => rw [e] at hx; exact ⟨y, rfl, Option.some.inj hx⟩
    have hmem := List.mem_of_getElem? hxp
    have hp := hw.mem hmem
    have p2 := PN_lt _ hp
    have qx := qOf_le hw hmem
    obtain ⟨k0, c0, i0⟩ := fst_ex (hf x hmem)
    have s12 := s1.trans s2
    refine ⟨rfl, yes_ (iteT ?_)⟩
    refine ⟨_, rfl, _, rfl, pw, x, rfl, hP, hmem, fun v1 H3 s3 v10 v11 d1 d2 => ?_⟩
    refine ⟨_, rfl, _, rfl, _, rfl, a, x.1, cs, k0, c0, rfl, (s12.trans s3).sqt hs, by omega, h3, i0, fun H4 s4 => ?_⟩
    have s14 := (s12.trans s3).trans s4
    refine ⟨a, _, _, .int c0, rfl, rfl, s14.sqt hs, atI_nat (by rw [List.getElem?_map, i0.at_]; rfl), ?_⟩
    refine ⟨_, rfl, _, rfl, mOf pw, x.1, rfl, hm, p2.1, p2.2, fun e e1 e2 => ?_⟩
    obtain rfl := part_of hw hmem e1 e2
    rw [show x.1 ^ x.2 = qOf x from rfl]
    have q2 : 2 ≤ qOf x := by
      have := hw.pos x hmem
      have := Nat.pow_le_pow_right (n := x.1) (by omega) this
      rw [Nat.pow_one] at this
      exact Nat.le_trans p2.1 this
    refine ⟨c0, qOf x, rfl, q2, by omega, q_cop hp i0.nd, fun v2 H5 s5 v20 v21 d3 => ?_⟩
    have b1 : Bd 2000 v1 := by unfold Bd; omega
    have b2 : Bd 2000 v2 := by unfold Bd; omega
    have b12 : Bd 4100 (v1 * v2) := (b1.mul b2).mono (by decide)
    refine ⟨_, _, rfl, rfl, b1.mulOk b2 (by decide), ?_⟩
    have s25 := (s3.trans s4).trans s5
    refine ⟨_, s25 _ _ ee, ?_, same_upd2 (s2.trans s25) nD, es ++ [v1 * v2], by simp [le], ?_, ?_, ?_, ?_⟩
    · rw [List.length_map, le]
      have : i < pw.length := (List.getElem?_eq_some_iff.mp hxp).1
      exact Nat.lt_of_lt_of_le (show i < 10 by omega) (by decide)
    · rw [upd_same, List.map_append]
      rfl
    · intro j y hj hy k c ic
      rw [List.sum_append, List.sum_singleton]
      by_cases e : j = i
      · subst e
        rw [hxp] at hy
        cases hy
        obtain ⟨rfl, rfl⟩ := i0.uniq ic
        obtain ⟨z0, h0⟩ := f2 j x (Nat.le_refl _) hxp
        obtain ⟨z1, h1⟩ := d1
        obtain ⟨z3, h3⟩ := d3
        exact ⟨z0 * c0 + z1 * v2 * c0 + z3, by grind⟩
      · obtain ⟨z0, h0⟩ := f1 j y (by omega) hy k c ic
        obtain ⟨z1, h1⟩ := d2 y (List.mem_of_getElem? hy) (pw_ne hw hxp hy e)
        exact ⟨z0 + z1 * v2 * c, by grind⟩
    · intro j y hj hy
      rw [List.sum_append, List.sum_singleton]
      exact Int.dvd_add (f2 j y (by omega) hy) (Int.dvd_mul_of_dvd_left (d2 y (List.mem_of_getElem? hy) (pw_ne hw hxp hy (by omega))))
    · rw [List.sum_append, List.sum_singleton]
      exact Bd.sum fb b12
  · obtain ⟨s2, es, le, ee, f1, _, fb⟩ := h
    have ln : ((intsN (pw.map (·.1))).map V.int).length = pw.length := by simp
    rw [ln] at f1 fb
    refine ⟨D, es, rfl, SqL.of ee, k _ _ (s1.trans s2) (fun x hx k c i => ?_) ?_⟩
    · obtain ⟨j, hj, e⟩ := List.mem_iff_getElem.mp hx
      exact f1 j x hj (by rw [← e]; exact List.getElem?_eq_getElem hj) k c i
    · unfold Bd
      have := Nat.mul_le_mul_right (2 ^ 4100) plen
      have h2 : 10 * 2 ^ 4100 < 2 ^ 4500 := by decide +kernel
      omega
theorem cl_normal_factor {X : Cx} {p pos : Pos} {e : Expr} {es : List Expr} {t : TA} (T : Txt K mg) (hr : Room 3 X.A) (ha : PA X (e :: es) t) (hg : Gl X "normal_factor" := by rfl)
    (he : starEach (e :: es) X.env = (false, eval e X.env) :: starEach es X.env := by rfl) (hpl : (backTo pos (starEach es X.env)).any (·.1) = false := by rfl) (hK : X.K = K := by rfl) (hmg : X.mg = mg := by rfl) :
    PE X (.Call (.Name "normal_factor" p) (e :: es) [] pos) (tCall (sp_normal_factor K) [] E0 t) := by
  subst hK hmg
  exact pe_call (ok_normal_factor T) hr hg T.m_normal_factor T.F_normal_factor.kp T.b_normal_factor .nil pass0 ha (by decide) he hpl
/-! ### by a period -/
def sp_by_period (K : PySem.W.Frag) : Sp := fun vs H Q _ => ∃ (a : Addr) (m : Nat) (cs : List Int) (r : Int), vs = [.int (m : Int), .ref a, .int r] ∧ 1 ≤ m ∧ (SqL K H a (cs.map V.int) ∨ SqT K H a (cs.map V.int)) ∧ cs.length ≤ 3 ∧
  ∀ (p : Addr) (H' : Hp), Same H H' → H p = none → SAt K H' p m (cs.map fun c => c % (m : Int)) (r % (m : Int)) → Q (.ref p) H'
theorem ok_by_period (T : Txt K mg) : FnOk P w K mg base CX0 1 T.a_by_period T.d_by_period ["m", "c", "r"] (sp_by_period K) := by
  refine T.F_by_period.ok sc_by_period (fun vs H Q E h => ?_) (fun cdv A outer s H vs Q E hr h => ?_)
  · obtain ⟨a, m, cs, r, rfl, _⟩ := h
    rfl
  obtain ⟨a, m, cs, r, rfl, hm, hs, h3, q⟩ := h
  have m0 : (0 : Int) < (m : Int) := by omega
  have turn : ∀ (D : Addr) (i : Nat) (v : V) (H1 : Hp), H D = none → (cs.map V.int)[i]? = some v → Lc H D (fun i => ((cs.map fun c => c % (m : Int)).take i).map V.int) i H1 → ∃ c : Int, v = .int c ∧ ∃ acc, H1 D = some (.lst acc) ∧ acc.length < sizeLine ∧ Lc H D (fun i => ((cs.map fun c => c % (m : Int)).take i).map V.int) (i + 1) (upd H1 D (.lst (acc ++ [V.int (c % (m : Int))]))) := by
    intro D i v H1 nD hv h
    rw [List.getElem?_map] at hv
    obtain ⟨c, hc, rfl⟩ := Option.map_eq_some_iff.mp hv
    refine ⟨c, rfl, lc_leaf nD h.1 h.2 (by simp only [List.length_map, List.length_take]; omega) ?_⟩
    rw [List.take_add_one, List.getElem?_map, hc, List.map_append]
    rfl
  rcases hs with hs | hs
  · refine ⟨_, pss_one (ps_ret (pe_tup (pa_cons (pv 0) (pa_cons (pe_callTy call_tuple_of (by rfl) T.n_tuple (by decide +kernel) (pa_cons (pe_lc (own := [("number", 3)]) rfl sc_by_period.nd (pi_list (pv 1)) (blkOk_by (N := N_by_period) (sc := defScope s_by_period) (by decide +kernel)) (fun _ _ _ _ _ => (pg_name (i := 3) sc_by_period.nd rfl (Or.inl rfl))) (fun _ _ _ _ _ => pts_nil) (fun _ _ _ _ _ => (pe_op op_mod (pv 3) (pv 0)))) pa_nil)) (pa_cons (pe_op op_mod (pv 2) (pv 0)) pa_nil))))), ?_⟩
    refine ⟨_, rfl, _, rfl, a, rfl, ⟨_, hs⟩, fun D nD => lc_list (xs := cs.map V.int) (Lc H D fun i => ((cs.map fun c => c % (m : Int)).take i).map V.int) (lc_start nD rfl) (fun _ _ _ h => h.1.seq hs) (fun i v H1 hv h => ?_) (fun H1 h => ?_)⟩
    · obtain ⟨c, rfl, acc, k1, k2, k3⟩ := turn D i v H1 nD hv h
      exact ⟨rfl, yes_ (iteT ⟨_, rfl, _, rfl, _, _, rfl, rfl, m0, acc, k1, k2, k3⟩)⟩
    · obtain ⟨s1, e1⟩ := lc_done h (ys := (cs.map fun c => c % (m : Int)).map V.int) (by
        show ((cs.map fun c => c % (m : Int)).take (cs.map V.int).length).map V.int = _
        rw [List.take_of_length_le (by simp)])
      refine ⟨D, _, rfl, .inl ⟨SqL.of e1, fun l nl => ?_⟩⟩
      have s2 := s1.trans (same_new nl (.tup ((cs.map fun c => c % (m : Int)).map V.int)))
      refine ⟨_, rfl, _, rfl, _, _, rfl, rfl, m0, (by show 3 ≤ sizeLine; decide), fun t nt => ?_⟩
      have s3 := s2.trans (same_new nt (.tup [V.int (m : Int), V.ref l, V.int (r % (m : Int))]))
      exact q t _ s3 (s2.free nt) ⟨l, SqT.of upd_same, (same_new nt _).sqt (SqT.of upd_same)⟩
  · refine ⟨_, pss_one (ps_ret (pe_tup (pa_cons (pv 0) (pa_cons (pe_callTy call_tuple_of (by rfl) T.n_tuple (by decide +kernel) (pa_cons (pe_lc (own := [("number", 3)]) rfl sc_by_period.nd (pi_tup (pv 1)) (blkOk_by (N := N_by_period) (sc := defScope s_by_period) (by decide +kernel)) (fun _ _ _ _ _ => (pg_name (i := 3) sc_by_period.nd rfl (Or.inl rfl))) (fun _ _ _ _ _ => pts_nil) (fun _ _ _ _ _ => (pe_op op_mod (pv 3) (pv 0)))) pa_nil)) (pa_cons (pe_op op_mod (pv 2) (pv 0)) pa_nil))))), ?_⟩
    refine ⟨_, rfl, _, rfl, a, rfl, ⟨_, hs⟩, fun D nD => lc_tup (xs := cs.map V.int) (Lc H D fun i => ((cs.map fun c => c % (m : Int)).take i).map V.int) (lc_start nD rfl) (fun _ _ _ h => h.1.sqt hs) (fun i v H1 hv h => ?_) (fun H1 h => ?_)⟩
    · obtain ⟨c, rfl, acc, k1, k2, k3⟩ := turn D i v H1 nD hv h
      exact ⟨rfl, yes_ (iteT ⟨_, rfl, _, rfl, _, _, rfl, rfl, m0, acc, k1, k2, k3⟩)⟩
    · obtain ⟨s1, e1⟩ := lc_done h (ys := (cs.map fun c => c % (m : Int)).map V.int) (by
        show ((cs.map fun c => c % (m : Int)).take (cs.map V.int).length).map V.int = _
        rw [List.take_of_length_le (by simp)])
      refine ⟨D, _, rfl, .inl ⟨SqL.of e1, fun l nl => ?_⟩⟩
      have s2 := s1.trans (same_new nl (.tup ((cs.map fun c => c % (m : Int)).map V.int)))
      refine ⟨_, rfl, _, rfl, _, _, rfl, rfl, m0, (by show 3 ≤ sizeLine; decide), fun t nt => ?_⟩
      have s3 := s2.trans (same_new nt (.tup [V.int (m : Int), V.ref l, V.int (r % (m : Int))]))
      exact q t _ s3 (s2.free nt) ⟨l, SqT.of upd_same, (same_new nt _).sqt (SqT.of upd_same)⟩
theorem cl_by_period {X : Cx} {p pos : Pos} {e : Expr} {es : List Expr} {t : TA} (T : Txt K mg) (hr : Room 1 X.A) (ha : PA X (e :: es) t) (hg : Gl X "by_period" := by rfl)
    (he : starEach (e :: es) X.env = (false, eval e X.env) :: starEach es X.env := by rfl) (hpl : (backTo pos (starEach es X.env)).any (·.1) = false := by rfl) (hK : X.K = K := by rfl) (hmg : X.mg = mg := by rfl) :
    PE X (.Call (.Name "by_period" p) (e :: es) [] pos) (tCall (sp_by_period K) [] E0 t) := by
  subst hK hmg
  exact pe_call (ok_by_period T) hr hg T.m_by_period T.F_by_period.kp T.b_by_period .nil pass0 ha (by decide) he hpl
/-! ### normal forms -/
def sp_normal_form (K : PySem.W.Frag) : Sp := fun vs H Q _ => ∃ (a : Addr) (pw : List (Nat × Nat)) (cs : List Int) (r : Int), vs = [.ref a] ∧ SAt K H a (mOf pw) cs r ∧ Per pw ∧ cs.length ≤ 3 ∧ Free pw cs ∧ (∀ c ∈ cs, Bd 2000 c) ∧ Bd 2000 r ∧
  ∀ (p : Addr) (H' : Hp), Same H H' → H p = none → SAt K H' p (mOf pw) (nfC pw cs) (nfR pw cs r) → Q (.ref p) H'
theorem ok_normal_form (T : Txt K mg) : FnOk P w K mg base CX0 4 T.a_normal_form T.d_normal_form ["stripe"] (sp_normal_form K) := by
  refine T.F_normal_form.ok sc_normal_form (fun vs H Q E h => ?_) (fun cdv A outer s H vs Q E hr h => ?_)
  · obtain ⟨a, pw, cs, r, rfl, _⟩ := h
    rfl
  obtain ⟨a, pw, cs, r, rfl, hA, hP, h3, hf, cb, rb, q⟩ := h
  refine ⟨_, pss_cons (ps_asg (pv 0) (pg_tup (by rfl) (pgs_cons (pg_name (i := 1) sc_normal_form.nd rfl (Or.inl rfl)) (pgs_cons (pg_name (i := 2) sc_normal_form.nd rfl (Or.inl rfl)) (pgs_cons (pg_name (i := 3) sc_normal_form.nd rfl (Or.inl rfl)) pgs_nil)))))
    (pss_cons (ps_set (i := 4) sc_normal_form.nd rfl (Or.inr rfl) (cl_normal_factor T (hr.mono (by decide)) (pa_cons (pv 1) (pa_cons (pv 2) pa_nil))))
    (pss_one (ps_ret (cl_by_period T (hr.mono (by decide)) (pa_cons (pv 1) (pa_cons (pe_lc (own := [("number", 5)]) rfl sc_normal_form.nd (pi_tup (pv 2)) (blkOk_by (N := N_normal_form) (sc := defScope s_normal_form) (by decide +kernel)) (fun _ _ _ _ _ => (pg_name (i := 5) sc_normal_form.nd rfl (Or.inl rfl))) (fun _ _ _ _ _ => pts_nil) (fun _ _ _ _ _ => (pe_op op_mulW (pv 4) (pv 5)))) (pa_cons (pe_op op_mulW (pv 4) (pv 3)) pa_nil))))))), ?_⟩
  obtain ⟨c, ha, hc⟩ := hA.at_
  refine ⟨_, rfl, a, _, rfl, ha, rfl, _, _, rfl, _, _, rfl, _, _, rfl, rfl, ?_⟩
  refine ⟨_, rfl, _, rfl, c, pw, cs, rfl, hP, hc, h3, hf, fun u H1 s1 hu bu => ?_⟩
  have hm := mOf_pos hP.ok
  obtain ⟨e1, e2⟩ := nf_of hP.ok hf hu
  refine ⟨_, rfl, _, rfl, c, rfl, ⟨_, s1.sqt hc⟩, fun D nD => lc_tup (xs := cs.map V.int) (Lc H1 D fun i => ((cs.map fun c => u * c).take i).map V.int) (lc_start nD rfl) (fun _ _ _ h => h.1.sqt (s1.sqt hc)) (fun i v H2 hv h => ?_) (fun H2 h => ?_)⟩
  · rw [List.getElem?_map] at hv
    obtain ⟨b, hb, rfl⟩ := Option.map_eq_some_iff.mp hv
    refine ⟨rfl, yes_ (iteT ?_)⟩
    refine ⟨_, rfl, _, rfl, _, _, rfl, rfl, bu.mulOk (cb b (List.mem_of_getElem? hb)) (by decide), lc_leaf nD h.1 h.2 (by simp only [List.length_map, List.length_take]; omega) ?_⟩
    rw [List.take_add_one, List.getElem?_map, hb, List.map_append]
    rfl
  · obtain ⟨s2, k2⟩ := lc_done h (ys := (cs.map fun c => u * c).map V.int) (by
      show ((cs.map fun c => u * c).take (cs.map V.int).length).map V.int = _
      rw [List.take_of_length_le (by simp)])
    refine ⟨_, rfl, _, rfl, _, _, rfl, rfl, bu.mulOk rb (by decide), ?_⟩
    refine ⟨D, mOf pw, cs.map fun c => u * c, u * r, rfl, hm, .inl (SqL.of k2), by rw [List.length_map]; exact h3, fun p H3 s3 np hp => ?_⟩
    have s13 := s1.trans s2
    refine q p H3 (s13.trans s3) (s13.free np) ?_
    rw [← e1, ← e2]
    rw [List.map_map] at hp
    exact hp
theorem cl_normal_form {X : Cx} {p pos : Pos} {e : Expr} {es : List Expr} {t : TA} (T : Txt K mg) (hr : Room 4 X.A) (ha : PA X (e :: es) t) (hg : Gl X "normal_form" := by rfl)
    (he : starEach (e :: es) X.env = (false, eval e X.env) :: starEach es X.env := by rfl) (hpl : (backTo pos (starEach es X.env)).any (·.1) = false := by rfl) (hK : X.K = K := by rfl) (hmg : X.mg = mg := by rfl) :
    PE X (.Call (.Name "normal_form" p) (e :: es) [] pos) (tCall (sp_normal_form K) [] E0 t) := by
  subst hK hmg
  exact pe_call (ok_normal_form T) hr hg T.m_normal_form T.F_normal_form.kp T.b_normal_form .nil pass0 ha (by decide) he hpl
theorem SOk.fr {pw : List (Nat × Nat)} {cs : List Int} {r : Int} (h : SOk pw cs r) : Free pw cs := fun _ hx => h.free hx
theorem SOk.rbd {pw : List (Nat × Nat)} {cs : List Int} {r : Int} (h : SOk pw cs r) : Bd 2000 r := by
  have := h.r0
  have := h.per.bd
  unfold Bd
  omega
theorem SOk.mk2 {pw : List (Nat × Nat)} (hP : Per pw) {cs : List Int} {r : Int} (l1 : 1 ≤ cs.length) (l3 : cs.length ≤ 3) (c0 : ∀ c ∈ cs, 0 ≤ c ∧ c < (mOf pw : Nat))
    (ok : Free pw cs) (r0 : 0 ≤ r ∧ r < (mOf pw : Nat)) : SOk pw cs r := ⟨hP, l1, l3, c0, r0, gcdL_one hP.ok ok⟩
theorem SOk.nf {pw : List (Nat × Nat)} {cs : List Int} {r : Int} (h : SOk pw cs r) : SOk pw (nfC pw cs) (nfR pw cs r) :=
  SOk.mk2 h.per (by rw [nfC_len]; exact h.l1) (by rw [nfC_len]; exact h.l3) (nfC_bd h.per.ok cs) (nf_free h.per.ok h.fr) (nfR_bd h.per.ok cs r)
/-! ### the program's own -/
def sp_normal_stripe (K : PySem.W.Frag) : Sp := fun vs H Q _ => ∃ (a : Addr) (pw : List (Nat × Nat)) (cs : List Int) (r : Int), vs = [.ref a] ∧ SAt K H a (mOf pw) cs r ∧ SOk pw cs r ∧
  ∀ (p : Addr) (H' : Hp), Same H H' → H p = none → SAt K H' p (mOf pw) (nfC pw cs) (nfR pw cs r) → Q (.ref p) H'
theorem ok_normal_stripe (T : Txt K mg) : FnOk P w K mg base CX0 5 T.a_normal_stripe T.d_normal_stripe ["stripe"] (sp_normal_stripe K) := by
  refine T.F_normal_stripe.ok sc_normal_stripe (fun vs H Q E h => ?_) (fun cdv A outer s H vs Q E hr h => ?_)
  · obtain ⟨a, pw, cs, r, rfl, _⟩ := h
    rfl
  obtain ⟨a, pw, cs, r, rfl, hA, hO, q⟩ := h
  refine ⟨_, pss_cons (ps_expr (cl_check_stripe T (hr.mono (by decide)) (pa_cons (pv 0) pa_nil)))
    (pss_one (ps_ret (cl_normal_form T (hr.mono (by decide)) (pa_cons (pv 0) pa_nil)))), ?_⟩
  refine ⟨_, rfl, a, pw, cs, r, rfl, hA, hO, fun H1 s1 => ?_⟩
  exact ⟨_, rfl, a, pw, cs, r, rfl, hA.mono s1, hO.per, hO.l3, hO.fr, hO.bd, hO.rbd, fun p H2 s2 np hp => q p H2 (s1.trans s2) (s1.free np) hp⟩
theorem cl_normal_stripe {X : Cx} {p pos : Pos} {e : Expr} {es : List Expr} {t : TA} (T : Txt K mg) (hr : Room 5 X.A) (ha : PA X (e :: es) t) (hg : Gl X "normal_stripe" := by rfl)
    (he : starEach (e :: es) X.env = (false, eval e X.env) :: starEach es X.env := by rfl) (hpl : (backTo pos (starEach es X.env)).any (·.1) = false := by rfl) (hK : X.K = K := by rfl) (hmg : X.mg = mg := by rfl) :
    PE X (.Call (.Name "normal_stripe" p) (e :: es) [] pos) (tCall (sp_normal_stripe K) [] E0 t) := by
  subst hK hmg
  exact pe_call (ok_normal_stripe T) hr hg T.m_normal_stripe T.F_normal_stripe.kp T.b_normal_stripe .nil pass0 ha (by decide) he hpl
theorem dp_str {H : Hp} {a : Addr} {m : Nat} {cs : List Int} {r : Int} (h : SAt K H a m cs r) : Dp K H (.ref a) (strD m cs r) := by
  obtain ⟨c, h1, h2⟩ := h.at_
  exact .tup h1 (.cons (.int _) (.cons (.tup h2 (dpAll_ints cs)) (.cons (.int _) .nil)))
theorem shaped_str {m : Nat} {cs : List Int} {r : Int} : SeqAt.shaped (strD m cs r) = true := by
  have h : ∀ cs : List Int, PyData.canLayAll0 (cs.map PyData.int) = true ∧ PyData.depthAll (cs.map PyData.int) = 0 := by
    intro cs
    induction cs with
    | nil => simp [PyData.canLayAll0, PyData.depthAll]
    | cons c r ih => simp [PyData.canLayAll0, PyData.depthAll, PyData.canLay0, PyData.depth, ih.1, ih.2]
  obtain ⟨h1, h2⟩ := h cs
  simp [SeqAt.shaped, strD, PyData.canLay0, PyData.canLayAll0, h1, PyData.depth, PyData.depthAll, h2]
def sp_are_same (K : PySem.W.Frag) : Sp := fun vs H Q _ => ∃ (a b : Addr) (pw qw : List (Nat × Nat)) (cs ds : List Int) (r s : Int), vs = [.ref a, .ref b] ∧ SAt K H a (mOf pw) cs r ∧ SOk pw cs r ∧ SAt K H b (mOf qw) ds s ∧ SOk qw ds s ∧
  ∀ (v : Bool) (H' : Hp), Same H H' → (v = true ↔ mOf pw = mOf qw ∧ nfC pw cs = nfC qw ds ∧ nfR pw cs r = nfR qw ds s) → Q (.bl v) H'
theorem ok_are_same (T : Txt K mg) : FnOk P w K mg base CX0 5 T.a_are_same T.d_are_same ["one", "other"] (sp_are_same K) := by
  refine T.F_are_same.ok sc_are_same (fun vs H Q E h => ?_) (fun cdv A outer s H vs Q E hr h => ?_)
  · obtain ⟨a, b, pw, qw, cs, ds, r, s, rfl, _⟩ := h
    rfl
  obtain ⟨a, b, pw, qw, cs, ds, r, s, rfl, hA, hO, hB, hO2, q⟩ := h
  refine ⟨_, pss_cons (ps_expr (cl_check_stripe T (hr.mono (by decide)) (pa_cons (pv 0) pa_nil)))
    (pss_cons (ps_expr (cl_check_stripe T (hr.mono (by decide)) (pa_cons (pv 1) pa_nil)))
    (pss_one (ps_ret (pe_cmpR (op_eqD hr.units) (cl_normal_form T (hr.mono (by decide)) (pa_cons (pv 0) pa_nil)) (cl_normal_form T (hr.mono (by decide)) (pa_cons (pv 1) pa_nil)) (nomark _))))), ?_⟩
  refine ⟨_, rfl, a, pw, cs, r, rfl, hA, hO, fun H1 s1 => ?_⟩
  refine ⟨_, rfl, b, qw, ds, s, rfl, hB.mono s1, hO2, fun H2 s2 => ?_⟩
  have s12 := s1.trans s2
  refine ⟨_, rfl, a, pw, cs, r, rfl, hA.mono s12, hO.per, hO.l3, hO.fr, hO.bd, hO.rbd, fun p H3 s3 np hp => ?_⟩
  have s13 := s12.trans s3
  refine ⟨_, rfl, b, qw, ds, s, rfl, hB.mono s13, hO2.per, hO2.l3, hO2.fr, hO2.bd, hO2.rbd, fun p2 H4 s4 np2 hp2 => ?_⟩
  refine ⟨strD _ _ _, strD _ _ _, dp_str (hp.mono s4), dp_str hp2, shaped_str, shaped_str, q _ H4 (s13.trans s4) ?_⟩
  rw [eqv_eq (strD_noBool _ _ _) (strD_noBool _ _ _), strD_inj]
theorem cl_are_same {X : Cx} {p pos : Pos} {e : Expr} {es : List Expr} {t : TA} (T : Txt K mg) (hr : Room 5 X.A) (ha : PA X (e :: es) t) (hg : Gl X "are_same" := by rfl)
    (he : starEach (e :: es) X.env = (false, eval e X.env) :: starEach es X.env := by rfl) (hpl : (backTo pos (starEach es X.env)).any (·.1) = false := by rfl) (hK : X.K = K := by rfl) (hmg : X.mg = mg := by rfl) :
    PE X (.Call (.Name "are_same" p) (e :: es) [] pos) (tCall (sp_are_same K) [] E0 t) := by
  subst hK hmg
  exact pe_call (ok_are_same T) hr hg T.m_are_same T.F_are_same.kp T.b_are_same .nil pass0 ha (by decide) he hpl
end
end KL
namespace KL
open PySem PySem.Spec PyProof.Rows L2 RZ StX SrtO Kw KM
/-! ### the deck -/
abbrev kC : Key := Sum.inr ("cells" : Str)
abbrev kM : Key := Sum.inr ("mixed" : Str)
abbrev kN : Key := Sum.inr ("draws" : Str)
abbrev deckV (l : Addr) (m n : Int) : List (Key × V) := [(kC, .ref l), (kM, .int m), (kN, .int n)]
theorem get_C {l : Addr} {m n : Int} : valV (deckV l m n) kC = some (.ref l) := rfl
theorem get_M {l : Addr} {m n : Int} : valV (deckV l m n) kM = some (.int m) := rfl
theorem get_N {l : Addr} {m n : Int} : valV (deckV l m n) kN = some (.int n) := rfl
theorem put_N {l : Addr} {m n k : Int} : putK (deckV l m n) kN (.int k) = deckV l m k := rfl
structure DeckAt (H : Hp) (d l : Addr) : Prop where
  ex : ∃ (m n : Int) (cs : List Int), H d = some (.dK (deckV l m n)) ∧ H l = some (.lst (cs.map V.int)) ∧ cs.length ≤ 63
/-- all but the deck stays, and the deck is one again -/
structure Stp (d l : Addr) (H H' : Hp) : Prop where
  pre : DeckAt H d l
  post : DeckAt H' d l
  kp : ∀ b o, b ≠ d → b ≠ l → H b = some o → H' b = some o
theorem Stp.trans {d l : Addr} {H H1 H2 : Hp} (a : Stp d l H H1) (b : Stp d l H1 H2) : Stp d l H H2 := ⟨a.pre, b.post, fun c o h1 h2 e => b.kp c o h1 h2 (a.kp c o h1 h2 e)⟩
theorem DeckAt.ne {H : Hp} {d l : Addr} (h : DeckAt H d l) : d ≠ l := by
  obtain ⟨m, n, cs, h1, h2, _⟩ := h.ex
  exact ne_of h1 h2 (by intro z; cases z)
theorem DeckAt.same {H H' : Hp} {d l : Addr} (h : DeckAt H d l) (s : Same H H') : DeckAt H' d l := by
  obtain ⟨m, n, cs, h1, h2, h3⟩ := h.ex
  exact ⟨m, n, cs, s _ _ h1, s _ _ h2, h3⟩
theorem DeckAt.stp {H H' : Hp} {d l : Addr} (h : DeckAt H d l) (s : Same H H') : Stp d l H H' := ⟨h, h.same s, fun b o _ _ e => s b o e⟩
theorem DeckAt.refl {H : Hp} {d l : Addr} (h : DeckAt H d l) : Stp d l H H := h.stp (Same.refl H)
theorem Stp.rd_tup {d l : Addr} {H H' : Hp} (s : Stp d l H H') {a : Addr} {xs : List V} (h : Rd H a (.tup xs)) : Rd H' a (.tup xs) := by
  obtain ⟨m, n, cs, h1, h2, _⟩ := s.pre.ex
  rcases h with h | ⟨o, h⟩
  · exact .inl (s.kp _ _ (ne_of h h1 (by intro z; cases z)) (ne_of h h2 (by intro z; cases z)) h)
  · exact .inr ⟨o, s.kp _ _ (ne_of h h1 (by intro z; cases z)) (ne_of h h2 (by intro z; cases z)) h⟩
theorem Stp.sqt {K : PySem.W.Frag} {d l : Addr} {H H' : Hp} (s : Stp d l H H') {a : Addr} {xs : List V} (h : SqT K H a xs) : SqT K H' a xs := by
  rcases h with h | h
  · exact .inl (s.rd_tup h)
  · exact .inr h
theorem Stp.sqlO {K : PySem.W.Frag} {d l : Addr} {H H' : Hp} (s : Stp d l H H') {a : Addr} {xs : List V} (n1 : a ≠ l) (h : SqL K H a xs) : SqL K H' a xs := by
  obtain ⟨m, n, cs, h1, h2, _⟩ := s.pre.ex
  rcases h with (h | ⟨o, h⟩) | h
  · exact .inl (.inl (s.kp _ _ (ne_of h h1 (by intro z; cases z)) n1 h))
  · exact .inl (.inr ⟨o, s.kp _ _ (ne_of h h1 (by intro z; cases z)) n1 h⟩)
  · exact .inr h
theorem Stp.lst {d l : Addr} {H H' : Hp} (s : Stp d l H H') {a : Addr} {xs : List V} (n1 : a ≠ l) (h : H a = some (.lst xs)) : H' a = some (.lst xs) := by
  obtain ⟨m, n, cs, h1, h2, _⟩ := s.pre.ex
  exact s.kp _ _ (ne_of h h1 (by intro z; cases z)) n1 h
theorem SAt.stp {K : PySem.W.Frag} {d l : Addr} {H H' : Hp} (s : Stp d l H H') {a : Addr} {m : Nat} {cs : List Int} {r : Int} (h : SAt K H a m cs r) : SAt K H' a m cs r := by
  obtain ⟨c, h1, h2⟩ := h.at_
  exact ⟨c, s.sqt h1, s.sqt h2⟩
/-- what is new is not the deck's list -/
theorem DeckAt.off {H : Hp} {d l a : Addr} (h : DeckAt H d l) (n : H a = none) : a ≠ l := by
  obtain ⟨m, k, cs, h1, h2, _⟩ := h.ex
  exact (ne_of_none h2 n).symm
theorem DeckAt.offd {H : Hp} {d l a : Addr} (h : DeckAt H d l) (n : H a = none) : a ≠ d := by
  obtain ⟨m, k, cs, h1, h2, _⟩ := h.ex
  exact (ne_of_none h1 n).symm
theorem dk_C {H : Hp} {d l : Addr} {m n : Int} (e : H d = some (.dK (deckV l m n))) : DGet H d (.str "cells") (some (.ref l)) := get_C (l := l) (m := m) (n := n) ▸ DGet.k (k := kC) e
theorem dk_M {H : Hp} {d l : Addr} {m n : Int} (e : H d = some (.dK (deckV l m n))) : DGet H d (.str "mixed") (some (.int m)) := get_M (l := l) (m := m) (n := n) ▸ DGet.k (k := kM) e
theorem dk_N {H : Hp} {d l : Addr} {m n : Int} (e : H d = some (.dK (deckV l m n))) : DGet H d (.str "draws") (some (.int n)) := get_N (l := l) (m := m) (n := n) ▸ DGet.k (k := kN) e
theorem dp_N {H : Hp} {d l : Addr} {m n k : Int} (e : H d = some (.dK (deckV l m n))) : DPut H d (.str "draws") (.int k) (upd H d (.dK (deckV l m k))) := put_N (l := l) (m := m) (n := n) (k := k) ▸ DPut.k (k := kN) e (by show 3 < sizeLine; decide)
theorem cut_all {xs : List V} {n : Nat} (h : xs.length ≤ n) : cutV xs none (some (n : Int)) = xs := by
  unfold cutV
  rw [HT.sIx_none, show HT.sIx xs.length xs.length (some (n : Int)) = min n xs.length from HT.sIx_nat xs.length xs.length n]
  rw [List.drop_zero, Nat.min_eq_right h, Nat.sub_zero, List.take_length]
section
variable {P : Program} {w : World} {K : PySem.W.Frag} {mg : Str → Option Value} {base : Heap}
def sp__law_deck (K : PySem.W.Frag) : Sp := fun vs H Q _ => ∃ (a : Addr) (ns : List Int), vs = [.ref a] ∧ SqL K H a (ns.map V.int) ∧ ns.length ≤ 63 ∧ ∀ d l H', Same H H' → H d = none → H l = none → DeckAt H' d l → Q (.ref d) H'
theorem ok__law_deck (T : Txt K mg) : FnOk P w K mg base CX0 1 T.a__law_deck T.d__law_deck ["_law_script"] (sp__law_deck K) := by
  refine T.F__law_deck.ok sc__law_deck (fun vs H Q E h => ?_) (fun cdv A outer s H vs Q E hr h => ?_)
  · obtain ⟨a, ns, rfl, _⟩ := h
    rfl
  obtain ⟨a, ns, rfl, hs, h63, q⟩ := h
  refine ⟨_, pss_cons (ps_set (i := 1) sc__law_deck.nd rfl (Or.inl rfl) pe_int)
    (pss_cons (ps_for PassesOwn.never rfl (pi_list (pe_slice sl_list (pv 0) po_none (po_some pe_int))) (pg_name (i := 2) sc__law_deck.nd rfl (Or.inl rfl)) (pss_one (ps_set (i := 1) sc__law_deck.nd rfl (Or.inl rfl) (pe_op op_mod (pe_callTy call_int1 (by rfl) T.n_int (by decide +kernel) (pa_cons (pe_op op_add (pe_op op_add (pe_op op_mul (pv 1) pe_int) (pe_op op_mod (pe_callTy call_int1 (by rfl) T.n_int (by decide +kernel) (pa_cons (pv 2) pa_nil)) pe_int)) pe_int) pa_nil)) pe_int))))
    (pss_one (ps_ret (pe_disp (pps_cons pe_str (pe_revL (pe_callTy call_list_of (by rfl) T.n_list (by decide +kernel) (pa_cons (pe_slice sl_list (pv 0) po_none (po_some pe_int)) pa_nil))) (pps_cons pe_str (pv 1) (pps_cons pe_str pe_int pps_nil))) (by rfl) (by rfl) (by simp) (by decide))))), ?_⟩
  have hl : (ns.map V.int).length ≤ 63 := by simpa using h63
  have hcut : cutV (ns.map V.int) none (some (63 : Int)) = ns.map V.int := cut_all (n := 63) hl
  refine ⟨_, rfl, 63, rfl, a, _, rfl, hs, fun c nc => ?_⟩
  have s1 := same_new nc (.lst (cutV (ns.map V.int) none (some 63)))
  have ec : (upd H c (.lst (cutV (ns.map V.int) none (some 63)))) c = some (.lst (ns.map V.int)) := by rw [upd_same, hcut]
  generalize hH1 : upd H c (.lst (cutV (ns.map V.int) none (some 63))) = H1 at s1 ec
  refine ⟨c, rfl, ⟨_, SqL.of ec⟩, for_list (xs := ns.map V.int) (fun i σ H' => ∃ (m : Int) (z : Option V), σ = [some (.ref a), some (.int m), z] ∧ H1 = H') ⟨_, none, rfl, rfl⟩ ?_ ?_ ?_⟩
  · rintro i σ H' _ ⟨m, z, rfl, rfl⟩
    exact SqL.of ec
  · rintro i x σ H' hx ⟨m, z, rfl, rfl⟩
    rw [List.getElem?_map] at hx
    obtain ⟨v, hv, rfl⟩ := Option.map_eq_some_iff.mp hx
    refine ⟨_, rfl, _, _, rfl, rfl, .inr (by decide), _, rfl, .inl ⟨_, rfl, _, _, rfl, rfl, (show (0 : Int) < 2147483629 by decide), _, _, rfl, rfl, _, _, rfl, rfl, .inl ⟨_, rfl, _, _, rfl, rfl, (show (0 : Int) < 2147483587 by decide), ?_⟩⟩⟩
    exact ⟨_, _, rfl, rfl⟩
  · rintro σ H' ⟨m, z, rfl, rfl⟩
    intro d nd
    refine ⟨_, rfl, 63, rfl, a, _, rfl, (same_new nd _).seq (s1.seq hs), fun e ne => ?_⟩
    have s2 := (s1.trans (same_new nd (.dK []))).trans (same_new ne (.lst (cutV (ns.map V.int) none (some 63))))
    refine ⟨e, _, rfl, .inl (SqL.of upd_same), fun f nf => ?_⟩
    have s3 := s2.trans (same_new nf (.lst (cutV (ns.map V.int) none (some 63))))
    refine ⟨f, _, rfl, SqL.of upd_same, fun l nl => ?_⟩
    have s4 := s3.trans (same_new nl (.lst (cutV (ns.map V.int) none (some 63)).reverse))
    refine ⟨_, rfl, ?_⟩
    have nd4 : d ≠ l := fun z => by
      subst z
      have q1 : (upd (upd (upd H1 d (.dK [])) e (.lst (cutV (ns.map V.int) none (some 63)))) f (.lst (cutV (ns.map V.int) none (some 63)))) d = some (.dK []) :=
        (same_new nf _) _ _ ((same_new ne _) _ _ upd_same)
      rw [q1] at nl
      cases nl
    have ed : (upd (upd (upd (upd H1 d (.dK [])) e (.lst (cutV (ns.map V.int) none (some 63)))) f (.lst (cutV (ns.map V.int) none (some 63)))) l (.lst (cutV (ns.map V.int) none (some 63)).reverse)) d = some (.dK []) :=
      (same_new nl _) _ _ ((same_new nf _) _ _ ((same_new ne _) _ _ upd_same))
    have nH : H d = none := s1.free nd
    refine ⟨ed, deckV l m 0, rfl, by show 3 ≤ 15; decide, ?_⟩
    refine q d l _ (same_upd2 s4 nH) nH (s3.free nl) ⟨m, 0, ns.reverse, ?_, ?_, by simpa using h63⟩
    · rw [upd_same]
      rfl
    · rw [upd_ne nd4.symm, upd_same, hcut, List.map_reverse]
theorem cl__law_deck {X : Cx} {p pos : Pos} {e : Expr} {es : List Expr} {t : TA} (T : Txt K mg) (hr : Room 1 X.A) (ha : PA X (e :: es) t) (hg : Gl X "_law_deck" := by rfl)
    (he : starEach (e :: es) X.env = (false, eval e X.env) :: starEach es X.env := by rfl) (hpl : (backTo pos (starEach es X.env)).any (·.1) = false := by rfl) (hK : X.K = K := by rfl) (hmg : X.mg = mg := by rfl) :
    PE X (.Call (.Name "_law_deck" p) (e :: es) [] pos) (tCall (sp__law_deck K) [] E0 t) := by
  subst hK hmg
  exact pe_call (ok__law_deck T) hr hg T.m__law_deck T.F__law_deck.kp T.b__law_deck .nil pass0 ha (by decide) he hpl
end
end KL
namespace KL
open PySem PySem.Spec PyProof.Rows L2 RZ StX SrtO Kw KM
theorem dp_ints {K : PySem.W.Frag} {H : Hp} : ∀ cs : List Int, DpAll K H (cs.map V.int) (cs.map PyData.int)
  | [] => .nil
  | c :: r => .cons (.int c) (dp_ints r)
theorem lay_ints : ∀ cs : List Int, PyData.canLayAll0 (cs.map PyData.int) = true
  | [] => rfl
  | c :: r => by
    have ih := lay_ints r
    simp only [List.map_cons, PyData.canLayAll0, PyData.canLay0, ih, Bool.and_self]
theorem depth_ints : ∀ cs : List Int, PyData.depthAll (cs.map PyData.int) = 0
  | [] => by simp [PyData.depthAll]
  | c :: r => by
    have ih := depth_ints r
    simp only [List.map_cons, PyData.depthAll, PyData.depth, ih]
    rfl
theorem shaped_ints (cs : List Int) : SeqAt.shaped (.list (cs.map PyData.int)) = true := by
  unfold SeqAt.shaped
  simp [PyData.canLay0, lay_ints, PyData.depth, depth_ints]
theorem mid64 (z : Int) : -(2 ^ 64) < z % 2147483647 ∧ z % 2147483647 < 2 ^ 64 := by omega
section
variable {P : Program} {w : World} {K : PySem.W.Frag} {mg : Str → Option Value} {base : Heap}
def sp__law_draw (K : PySem.W.Frag) : Sp := fun vs H Q _ => ∃ (d l : Addr) (many : Int), vs = [.ref d, .int many] ∧ DeckAt H d l ∧ 1 ≤ many ∧ Bd 2000 many ∧
  ∀ (v : Int) (H' : Hp), 0 ≤ v → v < many → Stp d l H H' → Q (.int v) H'
theorem ok__law_draw (T : Txt K mg) : FnOk P w K mg base CX0 1 T.a__law_draw T.d__law_draw ["_law_deck_here", "_law_many"] (sp__law_draw K) := by
  refine T.F__law_draw.ok sc__law_draw (fun vs H Q E h => ?_) (fun cdv A outer s H vs Q E hr h => ?_)
  · obtain ⟨d, l, many, rfl, _⟩ := h
    rfl
  obtain ⟨d, l, many, rfl, hD, h1, hb, q⟩ := h
  refine ⟨_, pss_cons (ps_dput (hu_of hr) (pv 0) pe_str (pe_op op_add (pe_dget (hu_of hr) (pv 0) pe_str (fun _ _ => rfl)) pe_int) rfl)
    (pss_cons (ps_set (i := 2) sc__law_draw.nd rfl (Or.inl rfl) (pe_op op_add (pe_dget (hu_of hr) (pv 0) pe_str (fun _ _ => rfl)) (pe_op op_mul pe_int (pe_dget (hu_of hr) (pv 0) pe_str (fun _ _ => rfl)))))
    (Evl.pss_cut (ps_if (pt_cmpR (op_neD hr.units) (pe_dget (hu_of hr) (pv 0) pe_str (fun _ _ => rfl)) (pe_lst pa_nil) (nomark _)) (pss_cons (ps_set (i := 3) sc__law_draw.nd rfl (Or.inl rfl) (pe_bm0 PySem.F.plainAttrs_list PySem.F.slot_list_pop PySem.F.type_list_pop mt_pop (pe_dget (hu_of hr) (pv 0) pe_str (fun _ _ => rfl))))
        (pss_cons (ps_if (pt_cmpR op_ge (pv 3) (pe_op op_pow pe_int pe_int) (nomark _)) (pss_cons (ps_expr (pe_bm PySem.F.plainAttrs_list PySem.F.slot_list_append PySem.F.type_list_append mt_append (pe_dget (hu_of hr) (pv 0) pe_str (fun _ _ => rfl)) (pa_cons (pe_op op_fdivW (pv 3) (pe_callB (call_max2 rfl) (by rfl) T.n_max (by decide +kernel) (pa_cons pe_int (pa_cons (pv 1) pa_nil)))) pa_nil)))
            (pss_one (ps_ret (pe_op op_mod (pe_callTy call_int1 (by rfl) T.n_int (by decide +kernel) (pa_cons (pv 3) pa_nil)) (pv 1))))) pss_nil)
        (pss_one (ps_set (i := 2) sc__law_draw.nd rfl (Or.inl rfl) (pe_op op_add (pv 2) (pe_op op_mod (pe_callTy call_int1 (by rfl) T.n_int (by decide +kernel) (pa_cons (pv 3) pa_nil)) pe_int)))))) pss_nil)
    (pss_cons (ps_set (i := 2) sc__law_draw.nd rfl (Or.inl rfl) (pe_op op_mod (pe_callTy call_int1 (by rfl) T.n_int (by decide +kernel) (pa_cons (pe_op op_add (pe_op op_mul (pv 2) pe_int) pe_int) pa_nil)) pe_int))
    (pss_cons (ps_set (i := 2) sc__law_draw.nd rfl (Or.inl rfl) (pe_op op_mod (pe_callTy call_int1 (by rfl) T.n_int (by decide +kernel) (pa_cons (pe_op op_add (pe_op op_add (pe_op op_mul (pv 2) (pv 2)) (pe_op op_mul pe_int (pe_dget (hu_of hr) (pv 0) pe_str (fun _ _ => rfl)))) pe_int) pa_nil)) pe_int))
    (pss_cons (ps_set (i := 2) sc__law_draw.nd rfl (Or.inl rfl) (pe_op op_mod (pe_callTy call_int1 (by rfl) T.n_int (by decide +kernel) (pa_cons (pe_op op_mul (pv 2) pe_int) pa_nil)) pe_int))
    (pss_one (ps_ret (pe_op op_mod (pe_callTy call_int1 (by rfl) T.n_int (by decide +kernel) (pa_cons (pe_op op_fdivW (pv 2) pe_int) pa_nil)) (pv 1))))))))), ?_⟩
  have ndl := hD.ne
  have hD0 := hD
  obtain ⟨m, n, cs, e1, e2, h63⟩ := hD
  refine ⟨_, rfl, d, .int n, rfl, dk_N e1, _, _, rfl, rfl, _, rfl, d, _, rfl, dp_N e1, ?_⟩
  have f1 : (upd H d (.dK (deckV l m (n + 1)))) d = some (.dK (deckV l m (n + 1))) := upd_same
  have f2 : (upd H d (.dK (deckV l m (n + 1)))) l = some (.lst (cs.map V.int)) := by rw [upd_ne ndl.symm]; exact e2
  have fk : ∀ b o, b ≠ d → b ≠ l → H b = some o → (upd H d (.dK (deckV l m (n + 1)))) b = some o := fun b o h1 _ e => by rw [upd_ne h1]; exact e
  generalize hH1 : upd H d (.dK (deckV l m (n + 1))) = H1 at f1 f2 fk
  refine ⟨_, rfl, d, _, rfl, dk_M f1, _, rfl, d, _, rfl, dk_N f1, _, _, rfl, rfl, .inl (by decide), _, _, rfl, rfl, ?_⟩
  refine ⟨fun σ H3 => ∃ (num : Int) (z : Option V), σ = [some (.ref d), some (.int many), some (.int num), z] ∧ Stp d l H H3, ?_, ?_⟩
  · refine ⟨_, rfl, d, _, rfl, dk_C f1, (by show 0 ≤ sizeLine; exact Nat.zero_le _), fun p np => ?_⟩
    have s1 := same_new np (.lst [])
    have g1 := s1 _ _ f1
    have g2 := s1 _ _ f2
    have gk : ∀ b o, b ≠ d → b ≠ l → H b = some o → (upd H1 p (.lst [])) b = some o := fun b o h1 h2 e => s1 _ _ (fk b o h1 h2 e)
    have gp : (upd H1 p (.lst [])) p = some (.lst []) := upd_same
    generalize hH2 : upd H1 p (.lst []) = H2 at s1 g1 g2 gk gp
    refine ⟨.list (cs.map PyData.int), .list [], .lst (SqL.of g2) (dp_ints cs), .lst (SqL.of gp) .nil, shaped_ints cs, shaped_ints [], _, rfl, ?_⟩
    have snoc : cs = [] ∨ ∃ a b, cs = a ++ [b] := by
      rcases List.eq_nil_or_concat cs with e | ⟨a, b, e⟩
      · exact .inl e
      · exact .inr ⟨a, b, by rw [e, List.concat_eq_append]⟩
    rcases snoc with rfl | ⟨cs', c, rfl⟩
    · refine iteF ?_
      exact ⟨_, none, rfl, hD0, ⟨m, n + 1, [], g1, g2, by decide⟩, gk⟩
    · have hne : (!(PyData.list (List.map PyData.int (cs' ++ [c]))).eqv (PyData.list [])) = true := by
        cases cs' <;> rfl
      rw [hne]
      refine iteT ?_
      have hl : ((cs' ++ [c]).map V.int)[((cs' ++ [c]).map V.int).length - 1]? = some (.int c) := by
        simp
      have hdl : ((cs' ++ [c]).map V.int).dropLast = cs'.map V.int := by simp
      refine ⟨_, rfl, d, _, rfl, dk_C g1, .inl ⟨rfl, _, SqL.of g2⟩, l, _, _, rfl, rfl, g2, hl, ?_⟩
      rw [hdl]
      have h63' : cs'.length < 63 := by simp at h63; omega
      have i1 : (upd H2 l (.lst (cs'.map V.int))) d = some (.dK (deckV l m (n + 1))) := by rw [upd_ne ndl]; exact g1
      have i2 : (upd H2 l (.lst (cs'.map V.int))) l = some (.lst (cs'.map V.int)) := upd_same
      have ik : ∀ b o, b ≠ d → b ≠ l → H b = some o → (upd H2 l (.lst (cs'.map V.int))) b = some o := fun b o h1 h2 e => by rw [upd_ne h2]; exact gk b o h1 h2 e
      generalize hH3 : upd H2 l (.lst (cs'.map V.int)) = H3 at i1 i2 ik
      refine ⟨_, rfl, _, _, rfl, rfl, ⟨by decide, by decide, by decide⟩, _, _, rfl, rfl, _, rfl, ite2 (fun _ => ?_) (fun _ => ?_)⟩
      · refine ⟨_, rfl, d, _, rfl, dk_C i1, .inl ⟨rfl, _, SqL.of i2⟩, _, rfl, _, rfl, _, _, rfl, ?_⟩
        have mx : ∃ b : Int, (if many > 2 then many else 2) = b ∧ 0 < b ∧ Bd 2000 b := by
          by_cases c : many > 2
          · exact ⟨many, by rw [if_pos c], by omega, hb⟩
          · exact ⟨2, by rw [if_neg c], by decide, Bd.mono (a := 2) (by unfold Bd; decide) (by decide)⟩
        obtain ⟨b, eb, b0, bb⟩ := mx
        rw [eb]
        refine ⟨_, _, rfl, rfl, bb.divOk b0 (by decide) _, l, _, _, rfl, rfl, i2, ?_, ?_⟩
        · rw [List.length_map]
          exact Nat.lt_of_lt_of_le h63' (by decide)
        · refine ⟨_, rfl, .inl ⟨_, rfl, _, rfl, _, _, rfl, rfl, (show (0 : Int) < many by omega), ?_⟩⟩
          refine q _ _ (emodB _ (by omega)).1 (emodB _ (by omega)).2 ⟨hD0, ⟨m, n + 1, cs' ++ [c / b], ?_, ?_, ?_⟩, ?_⟩
          · rw [upd_ne ndl]
            exact i1
          · rw [upd_same, List.map_append]
            rfl
          · rw [List.length_append, List.length_singleton]
            omega
          · intro x o h1 h2 e
            rw [upd_ne h2]
            exact ik x o h1 h2 e
      · refine ⟨_, rfl, _, rfl, .inl ⟨_, rfl, _, _, rfl, rfl, (show (0 : Int) < 2147483629 by decide), _, _, rfl, rfl, ?_⟩⟩
        exact ⟨_, _, rfl, hD0, ⟨m, n + 1, cs', i1, i2, by omega⟩, ik⟩
  · rintro σ H3 ⟨num, z, rfl, st⟩
    obtain ⟨m', n', cs', k1, k2, _⟩ := st.post.ex
    refine ⟨_, rfl, _, _, rfl, rfl, .inr (by decide), _, _, rfl, rfl, .inl ⟨_, rfl, _, _, rfl, rfl, (show (0 : Int) < 2147483647 by decide), ?_⟩⟩
    refine ⟨_, rfl, _, rfl, _, _, rfl, rfl, .inl (mid64 _), _, rfl, d, _, rfl, dk_N k1, _, _, rfl, rfl, .inl (by decide), _, _, rfl, rfl, _, _, rfl, rfl, .inl ⟨_, rfl, _, _, rfl, rfl, (show (0 : Int) < 2147483587 by decide), ?_⟩⟩
    refine ⟨_, rfl, _, _, rfl, rfl, .inr (by decide), .inl ⟨_, rfl, _, _, rfl, rfl, (show (0 : Int) < 2147483563 by decide), ?_⟩⟩
    refine ⟨_, rfl, _, _, rfl, rfl, (Bd.divOk (b := 7) (by decide) (by show (64 : Int).natAbs < 128; decide) (by decide) _), .inl ⟨_, rfl, _, rfl, _, _, rfl, rfl, (show (0 : Int) < many by omega), ?_⟩⟩
    exact q _ H3 (emodB _ (by omega)).1 (emodB _ (by omega)).2 st
theorem cl__law_draw {X : Cx} {p pos : Pos} {e : Expr} {es : List Expr} {t : TA} (T : Txt K mg) (hr : Room 1 X.A) (ha : PA X (e :: es) t) (hg : Gl X "_law_draw" := by rfl)
    (he : starEach (e :: es) X.env = (false, eval e X.env) :: starEach es X.env := by rfl) (hpl : (backTo pos (starEach es X.env)).any (·.1) = false := by rfl) (hK : X.K = K := by rfl) (hmg : X.mg = mg := by rfl) :
    PE X (.Call (.Name "_law_draw" p) (e :: es) [] pos) (tCall (sp__law_draw K) [] E0 t) := by
  subst hK hmg
  exact pe_call (ok__law_draw T) hr hg T.m__law_draw T.F__law_draw.kp T.b__law_draw .nil pass0 ha (by decide) he hpl
end
end KL
namespace KL
open PySem PySem.Spec PyProof.Rows L2 RZ StX SrtO Kw KM
section
variable {P : Program} {w : World} {K : PySem.W.Frag} {mg : Str → Option Value} {base : Heap}
/-! ### pick -/
def sp__law_pick (K : PySem.W.Frag) : Sp := fun vs H Q _ => ∃ (d l a : Addr) (xs : List V), vs = [.ref d, .ref a] ∧ DeckAt H d l ∧ SqL K H a xs ∧ a ≠ l ∧ 1 ≤ xs.length ∧ xs.length ≤ 1000 ∧
  ∀ (v : V) (H' : Hp), v ∈ xs → Stp d l H H' → Q v H'
theorem bdN {n : Nat} {i : Int} (h0 : 0 ≤ i) (h : i ≤ n) (hn : n < 2 ^ 2000) : Bd 2000 i := by
  unfold Bd
  omega
theorem ok__law_pick (T : Txt K mg) : FnOk P w K mg base CX0 2 T.a__law_pick T.d__law_pick ["_law_deck_here", "_law_some"] (sp__law_pick K) := by
  refine T.F__law_pick.ok sc__law_pick (fun vs H Q E h => ?_) (fun cdv A outer s H vs Q E hr h => ?_)
  · obtain ⟨d, l, a, xs, rfl, _⟩ := h
    rfl
  obtain ⟨d, l, a, xs, rfl, hD, hs, hal, h1, h2, q⟩ := h
  refine ⟨_, pss_one (ps_ret (pe_ix ix_list (pv 1) (cl__law_draw T (hr.mono (by decide)) (pa_cons (pv 0) (pa_cons (pe_callB call_len_seq (by rfl) T.n_len (by decide +kernel) (pa_cons (pv 1) pa_nil)) pa_nil))) (fun _ _ => rfl))), ?_⟩
  refine ⟨_, rfl, _, rfl, _, rfl, a, _, rfl, .inl hs, d, l, _, rfl, hD, (by omega), bdN (n := 1000) (by omega) (by omega) (by decide), fun v H' v0 v1 st => ?_⟩
  have hv : v.toNat < xs.length := by omega
  have ev : v = ((v.toNat : Nat) : Int) := by omega
  refine ⟨a, xs, v, xs[v.toNat], rfl, rfl, st.sqlO hal hs, ?_, q _ H' (List.getElem_mem hv) st⟩
  have z := atI_nat (xs := xs) (List.getElem?_eq_getElem hv)
  rw [← ev] at z
  exact z
theorem cl__law_pick {X : Cx} {p pos : Pos} {e : Expr} {es : List Expr} {t : TA} (T : Txt K mg) (hr : Room 2 X.A) (ha : PA X (e :: es) t) (hg : Gl X "_law_pick" := by rfl)
    (he : starEach (e :: es) X.env = (false, eval e X.env) :: starEach es X.env := by rfl) (hpl : (backTo pos (starEach es X.env)).any (·.1) = false := by rfl) (hK : X.K = K := by rfl) (hmg : X.mg = mg := by rfl) :
    PE X (.Call (.Name "_law_pick" p) (e :: es) [] pos) (tCall (sp__law_pick K) [] E0 t) := by
  subst hK hmg
  exact pe_call (ok__law_pick T) hr hg T.m__law_pick T.F__law_pick.kp T.b__law_pick .nil pass0 ha (by decide) he hpl
/-! ### great -/
def sp__law_great (K : PySem.W.Frag) : Sp := fun vs H Q _ => ∃ (d l : Addr) (top : Int), vs = [.ref d, .int top] ∧ DeckAt H d l ∧ 1 ≤ top ∧ Bd 1000 top ∧
  ∀ (v : Int) (H' : Hp), 0 ≤ v → v < top → Stp d l H H' → Q (.int v) H'
theorem ok__law_great (T : Txt K mg) : FnOk P w K mg base CX0 2 T.a__law_great T.d__law_great ["_law_deck_here", "_law_top"] (sp__law_great K) := by
  refine T.F__law_great.ok sc__law_great (fun vs H Q E h => ?_) (fun cdv A outer s H vs Q E hr h => ?_)
  · obtain ⟨d, l, top, rfl, _⟩ := h
    rfl
  obtain ⟨d, l, top, rfl, hD, h1, hb, q⟩ := h
  refine ⟨_, pss_cons (ps_if (pt_cmpR op_le (pv 1) (pe_op op_pow pe_int pe_int) (nomark _)) (pss_one (ps_ret (cl__law_draw T (hr.mono (by decide)) (pa_cons (pv 0) (pa_cons (pv 1) pa_nil))))) pss_nil)
    (pss_cons (ps_asg (pe_tup (pa_cons pe_int (pa_cons pe_int pa_nil))) (pg_tup (by rfl) (pgs_cons (pg_name (i := 2) sc__law_great.nd rfl (Or.inl rfl)) (pgs_cons (pg_name (i := 3) sc__law_great.nd rfl (Or.inl rfl)) pgs_nil))))
    (pss_cons (ps_while PassesOwn.never (pt_cmpR op_lt (pv 3) (pv 1) (nomark _)) (pss_one (ps_par (i := 2) (j := 3) (by rfl) sc__law_great.nd rfl rfl (by decide) rfl rfl (pa_cons (pe_op op_add (pe_op op_mul (pv 2) (pe_op op_pow pe_int pe_int)) (cl__law_draw T (hr.mono (by decide)) (pa_cons (pv 0) (pa_cons (pe_op op_pow pe_int pe_int) pa_nil)))) (pa_cons (pe_op op_mul (pv 3) (pe_op op_pow pe_int pe_int)) pa_nil)) (by rfl))))
    (pss_one (ps_ret (pe_op op_mod (pv 2) (pv 1)))))), ?_⟩
  refine ⟨_, rfl, _, _, rfl, rfl, ⟨by decide, by decide, by decide⟩, _, _, rfl, rfl, _, rfl, ite2 (fun _ => ?_) (fun _ => ?_)⟩
  · exact ⟨_, rfl, _, rfl, d, l, top, rfl, hD, h1, hb.mono (by decide), q⟩
  refine ⟨(by show 2 ≤ sizeLine; decide), fun t nt => ⟨t, _, rfl, SqT.of upd_same, rfl, _, _, rfl, _, _, rfl, rfl, ?_⟩⟩
  have st0 := hD.stp (same_new nt (.tup [V.int 0, V.int 1]))
  refine ⟨fun m σ H' => ∃ f r : Int, σ = [some (.ref d), some (.int top), some (.int f), some (.int r)] ∧ 0 ≤ f ∧ 1 ≤ r ∧ m = (top - r).toNat ∧ Stp d l H H', ⟨_, 0, 1, rfl, by decide, by decide, rfl, st0⟩, ?_⟩
  rintro m σ H' ⟨f, r, rfl, hf, hr1, rfl, st⟩
  refine ⟨_, rfl, _, rfl, _, _, rfl, rfl, _, rfl, ite2 (fun c => ?_) (fun c => ?_)⟩
  · have c := of_decide_eq_true c
    refine ⟨fun σ H2 => ∃ f r' : Int, σ = [some (.ref d), some (.int top), some (.int f), some (.int r')] ∧ 0 ≤ f ∧ r < r' ∧ Stp d l H H2, ?_, ?_⟩
    · rintro σ' H2 ⟨f', r', rfl, h0, h3, st'⟩
      exact ⟨(top - r').toNat, by omega, f', r', rfl, h0, by omega, rfl, st'⟩
    · refine ⟨_, rfl, _, _, rfl, rfl, ⟨by decide, by decide, by decide⟩, _, _, rfl, rfl, .inr ⟨by decide, by decide⟩, ?_⟩
      refine ⟨_, rfl, _, _, rfl, rfl, ⟨by decide, by decide, by decide⟩, d, l, _, rfl, st.post, by decide, Bd.mono (a := 20) (by unfold Bd; decide) (by decide), fun v H2 v0 v1 st2 => ?_⟩
      refine ⟨_, _, rfl, rfl, _, rfl, _, _, rfl, rfl, ⟨by decide, by decide, by decide⟩, _, _, rfl, rfl, .inr ⟨by decide, by decide⟩, ?_⟩
      refine ⟨_, _, rfl, _, _, rfl, ?_, ?_, st.trans st2⟩
      · have : (0 : Int) ≤ f * 10 ^ (6 : Int).toNat := Int.mul_nonneg hf (by decide)
        show 0 ≤ f * 10 ^ (6 : Int).toNat + v
        omega
      · show r < r * 10 ^ (6 : Int).toNat
        have e : (10 : Int) ^ (6 : Int).toNat = 1000000 := by decide
        rw [e]
        omega
  · refine ⟨_, rfl, _, rfl, _, _, rfl, rfl, (show (0 : Int) < top by omega), ?_⟩
    exact q _ H' (emodB f (by omega)).1 (emodB f (by omega)).2 st
theorem cl__law_great {X : Cx} {p pos : Pos} {e : Expr} {es : List Expr} {t : TA} (T : Txt K mg) (hr : Room 2 X.A) (ha : PA X (e :: es) t) (hg : Gl X "_law_great" := by rfl)
    (he : starEach (e :: es) X.env = (false, eval e X.env) :: starEach es X.env := by rfl) (hpl : (backTo pos (starEach es X.env)).any (·.1) = false := by rfl) (hK : X.K = K := by rfl) (hmg : X.mg = mg := by rfl) :
    PE X (.Call (.Name "_law_great" p) (e :: es) [] pos) (tCall (sp__law_great K) [] E0 t) := by
  subst hK hmg
  exact pe_call (ok__law_great T) hr hg T.m__law_great T.F__law_great.kp T.b__law_great .nil pass0 ha (by decide) he hpl
/-! ### signed -/
def sp__law_signed (K : PySem.W.Frag) : Sp := fun vs H Q _ => ∃ (d l : Addr) (top : Int), vs = [.ref d, .int top] ∧ DeckAt H d l ∧ 4 ≤ top ∧ Bd 1000 top ∧
  ∀ (v : Int) (H' : Hp), -top ≤ v → v ≤ top → Stp d l H H' → Q (.int v) H'
/-! ### product -/
def prodI (ns : List Nat) : Nat := ns.foldl (fun a b => a * b) 1
theorem prodI_snoc (ns : List Nat) (n : Nat) : prodI (ns ++ [n]) = prodI ns * n := by
  unfold prodI
  rw [List.foldl_append]
  rfl
theorem prodI_pos : ∀ {ns : List Nat}, (∀ n ∈ ns, 1 ≤ n) → ∀ a, 1 ≤ a → a ≤ ns.foldl (fun a b => a * b) a
  | [], _, a, _ => Nat.le_refl a
  | n :: r, h, a, ha => by
    have h1 := h n List.mem_cons_self
    have h2 : a ≤ a * n := Nat.le_mul_of_pos_right a h1
    exact Nat.le_trans h2 (prodI_pos (fun m hm => h m (List.mem_cons_of_mem _ hm)) (a * n) (Nat.le_trans ha h2))
theorem prodI_take {ns : List Nat} (h : ∀ n ∈ ns, 1 ≤ n) (i : Nat) : 1 ≤ prodI (ns.take i) ∧ prodI (ns.take i) ≤ prodI ns := by
  have h1 : 1 ≤ prodI (ns.take i) := prodI_pos (fun m hm => h m (List.mem_of_mem_take hm)) 1 (Nat.le_refl 1)
  refine ⟨h1, ?_⟩
  have e : prodI ns = (ns.drop i).foldl (fun a b => a * b) (prodI (ns.take i)) := by
    unfold prodI
    rw [← List.foldl_append, List.take_append_drop]
  rw [e]
  exact prodI_pos (fun m hm => h m (List.mem_of_mem_drop hm)) _ h1
def sp__law_product (K : PySem.W.Frag) : Sp := fun vs H Q _ => ∃ (a : Addr) (ns : List Nat), vs = [.ref a] ∧ SqL K H a ((intsN ns).map V.int) ∧ (∀ n ∈ ns, 1 ≤ n) ∧ prodI ns < 2 ^ 1000 ∧ Q (.int ((prodI ns : Nat) : Int)) H
theorem ok__law_product (T : Txt K mg) : FnOk P w K mg base CX0 1 T.a__law_product T.d__law_product ["_law_some"] (sp__law_product K) := by
  refine T.F__law_product.ok sc__law_product (fun vs H Q E h => ?_) (fun cdv A outer s H vs Q E hr h => ?_)
  · obtain ⟨a, ns, rfl, _⟩ := h
    rfl
  obtain ⟨a, ns, rfl, hs, h1, hb, q⟩ := h
  refine ⟨_, pss_cons (ps_set (i := 1) sc__law_product.nd rfl (Or.inl rfl) pe_int)
    (pss_cons (ps_for PassesOwn.never rfl (pi_list (pv 0)) (pg_name (i := 2) sc__law_product.nd rfl (Or.inl rfl)) (pss_one (ps_set (i := 1) sc__law_product.nd rfl (Or.inl rfl) (pe_op op_mulW (pv 1) (pv 2)))))
    (pss_one (ps_ret (pv 1)))), ?_⟩
  refine ⟨_, rfl, a, rfl, ⟨_, hs⟩, for_list (xs := (intsN ns).map V.int) (fun i σ H' => ∃ z, σ = [some (.ref a), some (.int ((prodI (ns.take i) : Nat) : Int)), z] ∧ H = H') ⟨none, rfl, rfl⟩ ?_ ?_ ?_⟩
  · rintro i σ H' _ ⟨z, rfl, rfl⟩
    exact hs
  · rintro i x σ H' hx ⟨z, rfl, rfl⟩
    rw [List.getElem?_map, List.getElem?_map] at hx
    obtain ⟨n, hn, rfl⟩ : ∃ n, ns[i]? = some n ∧ V.int (n : Int) = x := by
      cases e : ns[i]? with
      | none => rw [e] at hx; cases hx
      | some y => rw [e] at hx; exact ⟨y, rfl, Option.some.inj hx⟩
    have p1 := prodI_take h1 i
    have p2 := prodI_take h1 (i + 1)
    have e3 : ns.take (i + 1) = ns.take i ++ [n] := by rw [List.take_add_one, hn]; rfl
    rw [e3, prodI_snoc] at p2
    have hn2 : n ≤ prodI (ns.take i) * n := Nat.le_mul_of_pos_left n p1.1
    have b1 : Bd 1000 ((prodI (ns.take i) : Nat) : Int) := by unfold Bd; omega
    have b2 : Bd 1000 (n : Int) := by unfold Bd; omega
    refine ⟨_, rfl, _, rfl, _, _, rfl, rfl, b1.mulOk b2, some (.int (n : Int)), ?_, rfl⟩
    rw [e3, prodI_snoc, Int.natCast_mul]
    rfl
  · rintro σ H' ⟨z, rfl, rfl⟩
    have e : ns.take ((intsN ns).map V.int).length = ns := by simp
    rw [e]
    exact ⟨_, rfl, q⟩
theorem cl__law_product {X : Cx} {p pos : Pos} {e : Expr} {es : List Expr} {t : TA} (T : Txt K mg) (hr : Room 1 X.A) (ha : PA X (e :: es) t) (hg : Gl X "_law_product" := by rfl)
    (he : starEach (e :: es) X.env = (false, eval e X.env) :: starEach es X.env := by rfl) (hpl : (backTo pos (starEach es X.env)).any (·.1) = false := by rfl) (hK : X.K = K := by rfl) (hmg : X.mg = mg := by rfl) :
    PE X (.Call (.Name "_law_product" p) (e :: es) [] pos) (tCall (sp__law_product K) [] E0 t) := by
  subst hK hmg
  exact pe_call (ok__law_product T) hr hg T.m__law_product T.F__law_product.kp T.b__law_product .nil pass0 ha (by decide) he hpl
end
end KL
namespace KL
open PySem PySem.Spec PyProof.Rows L2 RZ StX SrtO Kw KM
section
variable {P : Program} {w : World} {K : PySem.W.Frag} {mg : Str → Option Value} {base : Heap}
/-! ### common -/
def sp__law_common : Sp := fun vs H Q _ => ∃ a b : Int, vs = [.int a, .int b] ∧ Q (.int ((Nat.gcd a.natAbs b.natAbs : Nat) : Int)) H
theorem abs_nat (i : Int) : (if i < 0 then -i else i) = ((i.natAbs : Nat) : Int) := by
  split <;> omega
/-! ### moved -/
def movI (xs ts : List Int) (k : Int) : List Int := List.zipWith (fun a b => a + k * b) xs ts
def sp__law_moved (K : PySem.W.Frag) : Sp := fun vs H Q _ => ∃ (a b : Addr) (xs ts : List Int) (k : Int), vs = [.ref a, .ref b, .int k] ∧ SqT K H a (xs.map V.int) ∧ SqT K H b (ts.map V.int) ∧ xs.length = ts.length ∧ xs.length ≤ 3 ∧
  (∀ x ∈ ts, Bd 2000 x) ∧ Bd 2000 k ∧ ∀ p H', Same H H' → H p = none → SqT K H' p ((movI xs ts k).map V.int) → Q (.ref p) H'
/-! ### is_due -/
end
end KL
namespace KL
open PySem PySem.Spec PyProof.Rows L2 RZ StX SrtO Kw KM
/-- the list of pairs (prime, power) at a -/
structure PwAt (K : PySem.W.Frag) (H : Hp) (a : Addr) (pw : List (Nat × Nat)) : Prop where
  ex : ∃ as : List Addr, SqL K H a (as.map V.ref) ∧ as.length = pw.length ∧ ∀ (i : Nat) (t : Addr) (x : Nat × Nat), as[i]? = some t → pw[i]? = some x → SqT K H t [.int x.1, .int ((qOf x : Nat) : Int)]
theorem PwAt.stp {K : PySem.W.Frag} {d l a : Addr} {H H' : Hp} {pw : List (Nat × Nat)} (s : Stp d l H H') (n : a ≠ l) (h : PwAt K H a pw) : PwAt K H' a pw := by
  obtain ⟨as, h1, h2, h3⟩ := h.ex
  exact ⟨as, s.sqlO n h1, h2, fun i t x e1 e2 => s.sqt (h3 i t x e1 e2)⟩
theorem PwAt.same {K : PySem.W.Frag} {a : Addr} {H H' : Hp} {pw : List (Nat × Nat)} (s : Same H H') (h : PwAt K H a pw) : PwAt K H' a pw := by
  obtain ⟨as, h1, h2, h3⟩ := h.ex
  exact ⟨as, s.seq h1, h2, fun i t x e1 e2 => s.sqt (h3 i t x e1 e2)⟩
section
variable {P : Program} {w : World} {K : PySem.W.Frag} {mg : Str → Option Value} {base : Heap}
theorem pairs_at {as : List Addr} {pw : List (Nat × Nat)} {i : Nat} {v : V} (hl : as.length = pw.length) (h : (as.map V.ref)[i]? = some v) : ∃ t x, as[i]? = some t ∧ pw[i]? = some x ∧ v = .ref t ∧ i < pw.length := by
  rw [List.getElem?_map] at h
  obtain ⟨t, ht, rfl⟩ := Option.map_eq_some_iff.mp h
  have hi := (List.getElem?_eq_some_iff.mp ht).1
  exact ⟨t, pw[i]'(hl ▸ hi), ht, List.getElem?_eq_getElem (hl ▸ hi), rfl, hl ▸ hi⟩
/-! ### unit -/
def sp__law_unit (K : PySem.W.Frag) : Sp := fun vs H Q _ => ∃ (d l a : Addr) (pw : List (Nat × Nat)), vs = [.ref d, .ref a, .int ((mOf pw : Nat) : Int)] ∧ DeckAt H d l ∧ PerD pw ∧ PwAt K H a pw ∧ a ≠ l ∧
  ∀ (u : Nat) (H' : Hp), (∀ x ∈ pw, ¬ x.1 ∣ u) → Bd 200 (u : Int) → Stp d l H H' → Q (.int (u : Int)) H'
theorem ok__law_unit (T : Txt K mg) : FnOk P w K mg base CX0 3 T.a__law_unit T.d__law_unit ["_law_deck_here", "_law_powers_here", "_law_m"] (sp__law_unit K) := by
  refine T.F__law_unit.ok sc__law_unit (fun vs H Q E h => ?_) (fun cdv A outer s H vs Q E hr h => ?_)
  · obtain ⟨d, l, a, pw, rfl, _⟩ := h
    rfl
  obtain ⟨d, l, a, pw, rfl, hD, hP, hA, hal, q⟩ := h
  refine ⟨_, pss_cons (ps_set (i := 3) sc__law_unit.nd rfl (Or.inl rfl) (cl__law_great T (hr.mono (by decide)) (pa_cons (pv 0) (pa_cons (pv 2) pa_nil))))
    (pss_cons (ps_for PassesOwn.never rfl (pi_list (pv 1)) (pg_tup (by rfl) (pgs_cons (pg_name (i := 4) sc__law_unit.nd rfl (Or.inl rfl)) (pgs_cons (pg_name (i := 5) sc__law_unit.nd rfl (Or.inl rfl)) pgs_nil))) (pss_one (ps_if (pt_cmpR op_eq (pe_op op_mod (pe_callTy call_int1 (by rfl) T.n_int (by decide +kernel) (pa_cons (pv 3) pa_nil)) (pv 4)) pe_int (nomark _)) (pss_one (ps_set (i := 3) sc__law_unit.nd rfl (Or.inl rfl) (pe_op op_add (pv 3) (pe_op op_fdivW (pv 2) (pv 5))))) pss_nil)))
    (pss_one (ps_ret (pv 3)))), ?_⟩
  have hm := mOf_pos hP.ok
  have hlt := hP.lt
  have bm : Bd 133 ((mOf pw : Nat) : Int) := by
    unfold Bd
    have : (10 : Nat) ^ 40 < 2 ^ 133 := by decide
    omega
  refine ⟨_, rfl, _, rfl, d, l, _, rfl, hD, by omega, bm.mono (by decide), fun v H1 v0 v1 st1 => ?_⟩
  obtain ⟨as, ha, hl, hi⟩ := (hA.stp st1 hal).ex
  have v' : ∃ n : Nat, v = (n : Int) ∧ n < mOf pw := ⟨v.toNat, by omega, by omega⟩
  obtain ⟨n, rfl, hn⟩ := v'
  refine ⟨_, rfl, a, rfl, ⟨_, ha⟩, for_list (xs := as.map V.ref) (fun i σ H' => ∃ (u : Nat) (y z : Option V), σ = [some (.ref d), some (.ref a), some (.int ((mOf pw : Nat) : Int)), some (.int (u : Int)), y, z] ∧ H1 = H' ∧ u < (i + 1) * 10 ^ 40 ∧ ∀ (j : Nat) (x : Nat × Nat), j < i → pw[j]? = some x → ¬ x.1 ∣ u) ⟨n, none, none, rfl, rfl, by omega, fun _ _ h => absurd h (Nat.not_lt_zero _)⟩ ?_ ?_ ?_⟩
  · rintro i σ H' _ ⟨u, y, z, rfl, rfl, _⟩
    exact ha
  · rintro i v σ H' hx ⟨u, y, z, rfl, rfl, hu, hok⟩
    obtain ⟨t, x, ht, hxp, rfl, hilt⟩ := pairs_at hl hx
    have tup := hi i t x ht hxp
    have hmem := List.mem_of_getElem? hxp
    have hxP := hP.ok.mem hmem
    have x2 := PN_lt _ hxP
    have qx := qOf_le hP.ok hmem
    refine ⟨t, _, rfl, tup, rfl, _, _, rfl, _, _, rfl, rfl, ?_⟩
    refine ⟨_, rfl, .inl ⟨_, rfl, _, rfl, _, _, rfl, rfl, (show (0 : Int) < (x.1 : Nat) by omega), rfl, _, rfl, ite2 (fun c => ?_) (fun c => ?_)⟩⟩
    · have c : (u : Int) % (x.1 : Nat) = 0 := V.int.inj (of_decide_eq_true c)
      have dx : x.1 ∣ u := Nat.dvd_of_mod_eq_zero (by omega)
      refine ⟨_, rfl, _, rfl, _, rfl, _, _, rfl, rfl, Bd.divOk (b := 133) (by omega) (by unfold Bd at *; omega) (by decide) _, _, _, rfl, rfl, ?_⟩
      refine ⟨u + mOf pw / qOf x, some (.int (x.1 : Int)), some (.int ((qOf x : Nat) : Int)), ?_, rfl, ?_, ?_⟩
      · rw [Int.natCast_add, Int.natCast_ediv]
        rfl
      · have := Nat.div_le_self (mOf pw) (qOf x)
        rw [Nat.add_mul (i + 1) 1]
        omega
      · intro j y hj hy dv
        have hym := List.mem_of_getElem? hy
        by_cases e : y.1 = x.1
        · have := (Nat.dvd_add_right (e ▸ dx)).mp dv
          exact (cof_dvd hP.ok hmem hym).mp this e
        · have dc := (cof_dvd hP.ok hmem hym).mpr e
          have du : y.1 ∣ u := (Nat.dvd_add_left dc).mp dv
          have hji : j ≠ i := by
            rintro rfl
            rw [hxp] at hy
            exact e (by cases hy; rfl)
          exact hok j y (by omega) hy du
    · have c : ¬ (u : Int) % (x.1 : Nat) = 0 := fun z => c (decide_eq_true (congrArg V.int z))
      refine ⟨u, _, _, rfl, rfl, Nat.lt_of_lt_of_le hu (Nat.mul_le_mul_right _ (Nat.le_succ _)), fun j y hj hy dv => ?_⟩
      by_cases e : j = i
      · subst e
        rw [hxp] at hy
        cases hy
        have := Nat.mod_eq_zero_of_dvd dv
        omega
      · exact hok j y (by omega) hy dv
  · rintro σ H' ⟨u, y, z, rfl, rfl, hu, hok⟩
    rw [List.length_map, hl] at hu hok
    have pl := pw_len hP.ok
    refine ⟨_, rfl, q u H1 (fun x hx dv => ?_) ?_ st1⟩
    · obtain ⟨j, hj, e⟩ := List.mem_iff_getElem.mp hx
      exact hok j x hj (by rw [← e]; exact List.getElem?_eq_getElem hj) dv
    · unfold Bd
      exact mulB (B := 10 ^ 40) (C := 2 ^ 200) hu pl (by decide)
theorem cl__law_unit {X : Cx} {p pos : Pos} {e : Expr} {es : List Expr} {t : TA} (T : Txt K mg) (hr : Room 3 X.A) (ha : PA X (e :: es) t) (hg : Gl X "_law_unit" := by rfl)
    (he : starEach (e :: es) X.env = (false, eval e X.env) :: starEach es X.env := by rfl) (hpl : (backTo pos (starEach es X.env)).any (·.1) = false := by rfl) (hK : X.K = K := by rfl) (hmg : X.mg = mg := by rfl) :
    PE X (.Call (.Name "_law_unit" p) (e :: es) [] pos) (tCall (sp__law_unit K) [] E0 t) := by
  subst hK hmg
  exact pe_call (ok__law_unit T) hr hg T.m__law_unit T.F__law_unit.kp T.b__law_unit .nil pass0 ha (by decide) he hpl
end
end KL
namespace KL
open PySem PySem.Spec PyProof.Rows L2 RZ StX SrtO Kw KM
theorem Stp.upd {d l a : Addr} {H H' : Hp} {o : HO} (s : Stp d l H H') (n : H a = none) : Stp d l H (L2.upd H' a o) := by
  have n1 := s.pre.offd n
  have n2 := s.pre.off n
  refine ⟨s.pre, ?_, fun b u h1 h2 e => ?_⟩
  · obtain ⟨m, k, cs, e1, e2, e3⟩ := s.post.ex
    exact ⟨m, k, cs, by rw [upd_ne n1.symm]; exact e1, by rw [upd_ne n2.symm]; exact e2, e3⟩
  · rw [upd_ne (ne_of_none e n)]
    exact s.kp b u h1 h2 e
theorem Stp.same {d l : Addr} {H H1 H2 : Hp} (s : Stp d l H H1) (e : Same H1 H2) : Stp d l H H2 := s.trans (s.post.stp e)
/-- new behind a step: not there ahead of it -/
theorem Stp.free {d l a : Addr} {H H' : Hp} (s : Stp d l H H') (n : H' a = none) : H a = none := by
  have n1 := s.post.offd n
  have n2 := s.post.off n
  cases e : H a with
  | none => rfl
  | some o =>
    have := s.kp a o n1 n2 e
    rw [this] at n
    cases n
theorem prodI_cons (n : Nat) (ns : List Nat) : prodI (n :: ns) = n * prodI ns := by
  unfold prodI
  have : ∀ (ns : List Nat) (a b : Nat), ns.foldl (fun a b => a * b) (a * b) = a * ns.foldl (fun a b => a * b) b := by
    intro ns
    induction ns with
    | nil => intro a b; rfl
    | cons x r ih => intro a b; simp only [List.foldl_cons]; rw [Nat.mul_assoc, ih]
  have h := this ns n 1
  simpa using h
theorem prodI_sub : ∀ {pw : List (Nat × Nat)}, Pw pw → ∀ {ns : List Nat}, ns.Sublist (pw.map qOf) → (∀ n ∈ ns, 1 ≤ n) ∧ prodI ns ≤ mOf pw
  | [], _, ns, h => by
    obtain rfl : ns = [] := List.eq_nil_of_sublist_nil h
    exact ⟨fun n hn => absurd hn List.not_mem_nil, Nat.le_refl 1⟩
  | x :: r, hw, ns, h => by
    have q1 := (qOf_le hw List.mem_cons_self).1
    have m1 := mOf_pos hw.tail
    rw [List.map_cons] at h
    cases h with
    | cons _ h =>
      have ih := prodI_sub hw.tail h
      exact ⟨ih.1, Nat.le_trans ih.2 (Nat.le_mul_of_pos_left _ q1)⟩
    | cons_cons _ h =>
      have ih := prodI_sub hw.tail h
      refine ⟨fun n hn => ?_, ?_⟩
      · rcases List.mem_cons.mp hn with rfl | hn
        · exact q1
        · exact ih.1 n hn
      · rw [prodI_cons]
        exact Nat.mul_le_mul_left _ ih.2
end KL
namespace KL
open PySem PySem.Spec PyProof.Rows L2 RZ StX SrtO Kw KM
theorem eqv_nil (cs : List Int) : PyData.eqv (.list (cs.map PyData.int)) (.list []) = decide (cs = []) := by
  cases cs <;> rfl
theorem set_intsN (cs : List Nat) (k v : Nat) : ((intsN cs).map V.int).set k (.int (v : Int)) = (intsN (cs.set k v)).map V.int := by
  unfold intsN
  rw [List.map_set, List.map_set]
/-- one number mended at one prime -/
theorem mend {pw : List (Nat × Nat)} (hw : Pw pw) {x : Nat × Nat} (hx : x ∈ pw) {cs : List Nat} (all : ∀ c ∈ cs, x.1 ∣ c) {k : Nat} (hk : k < cs.length) :
    (¬ x.1 ∣ (cs[k] + mOf pw / qOf x) % mOf pw) ∧ ∀ y ∈ pw, y.1 ≠ x.1 → ¬ y.1 ∣ cs[k] → ¬ y.1 ∣ (cs[k] + mOf pw / qOf x) % mOf pw := by
  have md : ∀ y ∈ pw, ∀ n : Nat, y.1 ∣ n % mOf pw ↔ y.1 ∣ n := fun y hy n => Nat.dvd_mod_iff ((dvd_mOf (hw.mem hy) hw).mpr (List.mem_map_of_mem hy))
  constructor
  · rw [md x hx]
    intro d
    have d2 := (Nat.dvd_add_right (all _ (List.getElem_mem hk))).mp d
    exact (cof_dvd hw hx hx).mp d2 rfl
  · intro y hy ne nd
    rw [md y hy]
    intro d
    exact nd ((Nat.dvd_add_left ((cof_dvd hw hx hy).mpr ne)).mp d)
section
variable {P : Program} {w : World} {K : PySem.W.Frag} {mg : Str → Option Value} {base : Heap}
def sp__law_numbers (K : PySem.W.Frag) : Sp := fun vs H Q _ => ∃ (d l a : Addr) (pw : List (Nat × Nat)) (dd : Nat), vs = [.ref d, .ref a, .int ((mOf pw : Nat) : Int), .int dd] ∧ DeckAt H d l ∧ PerD pw ∧ PwAt K H a pw ∧ a ≠ l ∧ 1 ≤ dd ∧ dd ≤ 3 ∧
  ∀ (p : Addr) (cs : List Nat) (H' : Hp), Stp d l H H' → SqT K H' p ((intsN cs).map V.int) → cs.length = dd → (∀ c ∈ cs, c < mOf pw) → (∀ x ∈ pw, ∃ c ∈ cs, ¬ x.1 ∣ c) → Q (.ref p) H'
theorem lt_shift {a b n i : Nat} (ha : a < 2 ^ (134 * i)) (hb : b < 2 ^ 134) (e : n = i + 1) : a * b < 2 ^ (134 * n) := by
  subst e
  rw [Nat.mul_add, Nat.mul_one, Nat.pow_add]
  exact Nat.mul_lt_mul'' ha hb
theorem ok__law_numbers (T : Txt K mg) : FnOk P w K mg base CX0 3 T.a__law_numbers T.d__law_numbers ["_law_deck_here", "_law_powers_here", "_law_m", "_law_d"] (sp__law_numbers K) := by
  refine T.F__law_numbers.ok sc__law_numbers (fun vs H Q E h => ?_) (fun cdv A outer s H vs Q E hr h => ?_)
  · obtain ⟨d, l, a, pw, dd, rfl, _⟩ := h
    rfl
  obtain ⟨d, l, a, pw, dd, rfl, hD, hP, hA, hal, h1, h3, q⟩ := h
  refine ⟨_, pss_cons (ps_set (i := 4) sc__law_numbers.nd rfl (Or.inl rfl) (pe_lst pa_nil))
    (Evl.pss_cut (ps_for PassesOwn.never rfl (pi_range1 (by rfl) T.n_range (pa_cons (pv 3) pa_nil)) (pg_name (i := 5) sc__law_numbers.nd rfl (Or.inl rfl)) (pss_cons (ps_par (i := 6) (j := 7) (by rfl) sc__law_numbers.nd rfl rfl (by decide) rfl rfl (pa_cons (cl__law_draw T (hr.mono (by decide)) (pa_cons (pv 0) (pa_cons pe_int pa_nil))) (pa_cons (cl__law_great T (hr.mono (by decide)) (pa_cons (pv 0) (pa_cons (pv 2) pa_nil))) pa_nil)) (by rfl))
        (Evl.pss_cut (ps_for PassesOwn.never rfl (pi_list (pv 1)) (pg_tup (by rfl) (pgs_cons (pg_name (i := 8) sc__law_numbers.nd rfl (Or.inr rfl)) (pgs_cons (pg_name (i := 9) sc__law_numbers.nd rfl (Or.inl rfl)) pgs_nil))) (pss_one (ps_if (PW.pt (pw_and (pt_cmpR op_gt (pv 6) pe_int (nomark _)) (pw_and1 (pt_cmpR op_eq (cl__law_draw T (hr.mono (by decide)) (pa_cons (pv 0) (pa_cons pe_int pa_nil))) pe_int (nomark _))))) (pss_one (ps_set (i := 7) sc__law_numbers.nd rfl (Or.inl rfl) (pe_op op_mulW (pv 7) (cl__law_pick T (hr.mono (by decide)) (pa_cons (pv 0) (pa_cons (pe_lst (pa_cons (pv 8) (pa_cons (pe_op op_mul (pv 8) (pv 8)) (pa_cons (pe_op op_fdivW (pv 9) (pv 8)) (pa_cons (pv 9) pa_nil))))) pa_nil)))))) pss_nil)))
        (pss_one (ps_expr (pe_bm PySem.F.plainAttrs_list PySem.F.slot_list_append PySem.F.type_list_append mt_append (pv 4) (pa_cons (pe_op op_mod (pe_callTy call_int1 (by rfl) T.n_int (by decide +kernel) (pa_cons (pe_ifExp (pt_cmpR op_eq (pv 6) pe_int (nomark _)) pe_int (pv 7)) pa_nil)) (pv 2)) pa_nil)))))))
    (Evl.pss_cut (ps_for PassesOwn.never rfl (pi_list (pv 1)) (pg_tup (by rfl) (pgs_cons (pg_name (i := 8) sc__law_numbers.nd rfl (Or.inr rfl)) (pgs_cons (pg_name (i := 9) sc__law_numbers.nd rfl (Or.inl rfl)) pgs_nil))) (pss_one (ps_if (pt_cmpR (op_eqD hr.units) (pe_lc (own := [("_law_x", 10)]) rfl sc__law_numbers.nd (pi_list (pv 4)) (blkOk_by (N := N__law_numbers) (sc := defScope s__law_numbers) (by decide +kernel)) (fun _ _ _ _ _ => (pg_name (i := 10) sc__law_numbers.nd rfl (Or.inl rfl))) (fun _ _ _ _ _ => (pts_one (pt_cmpR op_gt (pe_op op_mod (pe_callTy call_int1 (by rfl) T.n_int (by decide +kernel) (pa_cons (pv 10) pa_nil)) (pv 8)) pe_int (nomark _)))) (fun _ _ _ _ _ => (pv 10))) (pe_lst pa_nil) (nomark _)) (pss_cons (ps_set (i := 5) sc__law_numbers.nd rfl (Or.inl rfl) (cl__law_draw T (hr.mono (by decide)) (pa_cons (pv 0) (pa_cons (pv 3) pa_nil))))
            (pss_one (ps_asg (pe_op op_mod (pe_callTy call_int1 (by rfl) T.n_int (by decide +kernel) (pa_cons (pe_op op_add (pe_ix ix_list (pv 4) (pv 5) (fun _ _ => rfl)) (pe_op op_fdivW (pv 2) (pv 9))) pa_nil)) (pv 2)) (pg_sub (pv 4) (pv 5) set_list)))) pss_nil)))
    (pss_one (ps_ret (pe_callTy call_tuple_of (by rfl) T.n_tuple (by decide +kernel) (pa_cons (pv 4) pa_nil)))))), ?_⟩
  have hm := mOf_pos hP.ok
  have hlt := hP.lt
  have bm : Bd 133 ((mOf pw : Nat) : Int) := by
    unfold Bd
    have : (10 : Nat) ^ 40 < 2 ^ 133 := by decide
    omega
  have hlen := pw_len hP.ok
  have small : ∀ n : Nat, n < 100 → Bd 2000 (n : Int) := fun n h => bdN (n := n) (by omega) (by omega) (Nat.lt_of_lt_of_le h (by decide))
  obtain ⟨as, ha, hl, hi⟩ := hA.ex
  refine ⟨Nat.zero_le _, fun fo nfo => ?_⟩
  have nfl := hD.off nfo
  refine ⟨fun σ H' => ∃ (cs : List Nat) (x5 x6 x7 x8 x9 : Option V), σ = [some (.ref d), some (.ref a), some (.int ((mOf pw : Nat) : Int)), some (.int (dd : Int)), some (.ref fo), x5, x6, x7, x8, x9, none] ∧ Stp d l H H' ∧ H' fo = some (.lst ((intsN cs).map V.int)) ∧ cs.length = dd ∧ ∀ c ∈ cs, c < mOf pw, ?_, ?_⟩
  · -- the numbers are drawn
    refine ⟨_, rfl, dd, rfl, by omega, by omega, for_range (lo := 0) (n := ((dd : Nat) : Int).toNat) (fun i σ H' => ∃ (cs : List Nat) (x5 x6 x7 x8 x9 : Option V), σ = [some (.ref d), some (.ref a), some (.int ((mOf pw : Nat) : Int)), some (.int (dd : Int)), some (.ref fo), x5, x6, x7, x8, x9, none] ∧ Stp d l H H' ∧ H' fo = some (.lst ((intsN cs).map V.int)) ∧ cs.length = i ∧ ∀ c ∈ cs, c < mOf pw) ⟨[], none, none, none, none, none, rfl, hD.refl.upd nfo, upd_same, rfl, fun _ h => absurd h List.not_mem_nil⟩ ?_ ?_⟩
    · rintro i σ H' hi' ⟨cs, x5, x6, x7, x8, x9, rfl, st, ef, el, hc⟩
      refine ⟨_, rfl, d, l, 6, rfl, st.post, by decide, small 6 (by decide), fun way H1 w0 w1 st1 => ?_⟩
      refine ⟨_, rfl, _, rfl, d, l, _, rfl, st1.post, by omega, bm.mono (by decide), fun num H2 n0 n1 st2 => ?_⟩
      obtain ⟨num, rfl⟩ : ∃ n : Nat, num = (n : Int) := ⟨num.toNat, by omega⟩
      refine ⟨_, _, rfl, ?_⟩
      have st12 := (st.trans st1).trans st2
      have ef2 := st2.lst nfl (st1.lst nfl ef)
      refine ⟨fun σ H3 => ∃ (num : Nat) (x8 x9 : Option V), σ = [some (.ref d), some (.ref a), some (.int ((mOf pw : Nat) : Int)), some (.int (dd : Int)), some (.ref fo), some (.int (0 + (i : Int))), some (.int way), some (.int (num : Int)), x8, x9, none] ∧ Stp d l H H3 ∧ H3 fo = some (.lst ((intsN cs).map V.int)), ?_, ?_⟩
      · refine ⟨_, rfl, a, rfl, ⟨_, st12.sqlO hal ha⟩, for_list (xs := as.map V.ref) (fun j σ H3 => ∃ (num : Nat) (x8 x9 : Option V), σ = [some (.ref d), some (.ref a), some (.int ((mOf pw : Nat) : Int)), some (.int (dd : Int)), some (.ref fo), some (.int (0 + (i : Int))), some (.int way), some (.int (num : Int)), x8, x9, none] ∧ Stp d l H H3 ∧ H3 fo = some (.lst ((intsN cs).map V.int)) ∧ num < 2 ^ (134 * (j + 1))) ⟨num, x8, x9, rfl, st12, ef2, ?_⟩ ?_ ?_ ?_⟩
        · have : (2 : Nat) ^ 133 < 2 ^ (134 * (0 + 1)) := by decide
          unfold Bd at bm
          omega
        · rintro j σ H3 _ ⟨_, _, _, rfl, st3, _⟩
          exact st3.sqlO hal ha
        · rintro j v σ H3 hx ⟨num, x8, x9, rfl, st3, ef3, hnum⟩
          obtain ⟨t, x, ht, hxp, rfl, hj⟩ := pairs_at hl hx
          have hmem := List.mem_of_getElem? hxp
          have x2 := PN_lt _ (hP.ok.mem hmem)
          have qx := qOf_le hP.ok hmem
          have qb : qOf x < 2 ^ 133 := by unfold Bd at bm; omega
          have stay : num < 2 ^ (134 * (j + 1 + 1)) := Nat.lt_of_lt_of_le hnum (Nat.pow_le_pow_right (by decide) (by omega))
          refine ⟨t, _, rfl, st3.sqt (hi j t x ht hxp), rfl, _, _, rfl, _, _, rfl, rfl, ?_⟩
          refine ⟨_, rfl, _, _, rfl, rfl, _, rfl, ite2 (fun _ => ?_) (fun c => ?_)⟩
          · refine ⟨_, rfl, d, l, 3, rfl, st3.post, by decide, small 3 (by decide), fun v H4 v0 v1 st4 => ?_⟩
            have ef4 := st4.lst nfl ef3
            have st34 := st3.trans st4
            refine ⟨rfl, _, rfl, ite2 (fun _ => ?_) (fun _ => ?_)⟩
            · refine ⟨_, rfl, _, rfl, _, rfl, _, rfl, _, rfl, _, _, rfl, rfl, .inl ⟨by omega, by omega⟩, _, rfl, _, rfl, _, _, rfl, rfl, Bd.divOk (b := 5) (by omega) (by unfold Bd; omega) (by decide) _, _, rfl, ?_, fun p np => ?_⟩
              · show 4 ≤ sizeLine
                decide
              have st5 := st34.same (same_new np (.lst [.int (x.1 : Int), .int ((x.1 : Int) * (x.1 : Int)), .int (((qOf x : Nat) : Int) / (x.1 : Int)), .int ((qOf x : Nat) : Int)]))
              have npl := st34.post.off np
              refine ⟨d, l, p, _, rfl, st5.post, SqL.of upd_same, npl, by show 1 ≤ 4; decide, by show 4 ≤ 1000; decide, fun z H6 hz st6 => ?_⟩
              have ef6 := st6.lst nfl ((same_new np _) _ _ ef4)
              have hz' : ∃ n : Nat, z = .int (n : Int) ∧ n < 2 ^ 134 := by
                have b134 : (2 : Nat) ^ 133 < 2 ^ 134 := by decide
                have b10 : 841 < (2 : Nat) ^ 134 := by decide
                simp only [List.mem_cons, List.not_mem_nil, or_false] at hz
                rcases hz with rfl | rfl | rfl | rfl
                · exact ⟨x.1, rfl, by omega⟩
                · refine ⟨x.1 * x.1, by rw [Int.natCast_mul], ?_⟩
                  have : x.1 * x.1 ≤ 29 * 29 := Nat.mul_le_mul x2.2 x2.2
                  omega
                · refine ⟨qOf x / x.1, by rw [Int.natCast_ediv], ?_⟩
                  have := Nat.div_le_self (qOf x) x.1
                  omega
                · exact ⟨qOf x, rfl, by omega⟩
              obtain ⟨n, rfl, hn⟩ := hz'
              have bn : Bd (134 * (j + 1)) (num : Int) := by unfold Bd; omega
              have bn2 : Bd 134 (n : Int) := by unfold Bd; omega
              refine ⟨_, _, rfl, rfl, bn.mulOk bn2 (by omega), num * n, some (.int (x.1 : Int)), some (.int ((qOf x : Nat) : Int)), ?_, st5.trans st6, ef6, lt_shift hnum hn rfl⟩
              rw [Int.natCast_mul]
              rfl
            · exact ⟨num, _, _, rfl, st34, ef4, stay⟩
          · exact ⟨num, _, _, rfl, st3, ef3, stay⟩
        · rintro σ H3 ⟨num, x8, x9, rfl, st3, ef3, _⟩
          exact ⟨num, x8, x9, rfl, st3, ef3⟩
      · rintro σ H3 ⟨num, x8, x9, rfl, st3, ef3⟩
        have fin : ∀ n : Nat, ∃ (cs' : List Nat), (((intsN cs).map V.int) ++ [V.int ((n : Int) % ((mOf pw : Nat) : Int))]) = (intsN cs').map V.int ∧ cs'.length = i + 1 ∧ ∀ c ∈ cs', c < mOf pw := by
          intro n
          refine ⟨cs ++ [n % mOf pw], by simp [intsN], by simp [el], fun c hcm => ?_⟩
          rcases List.mem_append.mp hcm with k | k
          · exact hc c k
          · rw [List.mem_singleton.mp k]
            exact Nat.mod_lt _ (by omega)
        have room : ((intsN cs).map V.int).length < sizeLine := by
          simp only [List.length_map, el]
          exact Nat.lt_of_lt_of_le (show i < 4 by omega) (by decide)
        refine ⟨_, rfl, .inl ⟨rfl, _, SqL.of ef3⟩, _, rfl, rfl, _, rfl, ite2 (fun _ => ?_) (fun _ => ?_)⟩
        · refine .inl ⟨_, rfl, _, rfl, _, _, rfl, rfl, (show (0 : Int) < (mOf pw : Nat) by omega), fo, _, _, rfl, rfl, ef3, room, ?_⟩
          obtain ⟨cs', e1, e2, e3⟩ := fin 0
          refine ⟨cs', _, _, _, _, _, rfl, st3.upd nfo, ?_, e2, e3⟩
          rw [upd_same, ← e1]
          rfl
        · refine ⟨_, rfl, .inl ⟨_, rfl, _, rfl, _, _, rfl, rfl, (show (0 : Int) < (mOf pw : Nat) by omega), fo, _, _, rfl, rfl, ef3, room, ?_⟩⟩
          obtain ⟨cs', e1, e2, e3⟩ := fin num
          refine ⟨cs', _, _, _, _, _, rfl, st3.upd nfo, ?_, e2, e3⟩
          rw [upd_same, ← e1]
    · rintro σ H' ⟨cs, x5, x6, x7, x8, x9, rfl, st, ef, el, hc⟩
      exact ⟨cs, x5, x6, x7, x8, x9, rfl, st, ef, by rw [el]; omega, hc⟩
  · -- the numbers are mended
    rintro σ H0 ⟨cs0, x5, x6, x7, x8, x9, rfl, st0, ef0, el0, hc0⟩
    refine ⟨fun σ H' => ∃ (cs : List Nat) (x5 x6 x7 x8 x9 : Option V), σ = [some (.ref d), some (.ref a), some (.int ((mOf pw : Nat) : Int)), some (.int (dd : Int)), some (.ref fo), x5, x6, x7, x8, x9, none] ∧ Stp d l H H' ∧ H' fo = some (.lst ((intsN cs).map V.int)) ∧ cs.length = dd ∧ (∀ c ∈ cs, c < mOf pw) ∧ ∀ x ∈ pw, ∃ c ∈ cs, ¬ x.1 ∣ c, ?_, ?_⟩
    · refine ⟨_, rfl, a, rfl, ⟨_, st0.sqlO hal ha⟩, for_list (xs := as.map V.ref) (fun i σ H' => ∃ (cs : List Nat) (x5 x6 x7 x8 x9 : Option V), σ = [some (.ref d), some (.ref a), some (.int ((mOf pw : Nat) : Int)), some (.int (dd : Int)), some (.ref fo), x5, x6, x7, x8, x9, none] ∧ Stp d l H H' ∧ H' fo = some (.lst ((intsN cs).map V.int)) ∧ cs.length = dd ∧ (∀ c ∈ cs, c < mOf pw) ∧ ∀ (j : Nat) (x : Nat × Nat), j < i → pw[j]? = some x → ∃ c ∈ cs, ¬ x.1 ∣ c) ⟨cs0, x5, x6, x7, x8, x9, rfl, st0, ef0, el0, hc0, fun _ _ h => absurd h (Nat.not_lt_zero _)⟩ ?_ ?_ ?_⟩
      · rintro j σ H3 _ ⟨_, _, _, _, _, _, rfl, st3, _⟩
        exact st3.sqlO hal ha
      · rintro i v σ H' hx ⟨cs, x5, x6, x7, x8, x9, rfl, st, ef, el, hc, ok⟩
        obtain ⟨t, x, ht, hxp, rfl, hilt⟩ := pairs_at hl hx
        have hmem := List.mem_of_getElem? hxp
        have hxP := hP.ok.mem hmem
        have x2 := PN_lt _ hxP
        have qx := qOf_le hP.ok hmem
        refine ⟨t, _, rfl, st.sqt (hi i t x ht hxp), rfl, _, _, rfl, _, _, rfl, rfl, ?_⟩
        let kept : Nat → List Nat := fun j => (cs.take j).filter fun c => decide (0 < c % x.1)
        refine ⟨_, rfl, fo, rfl, ⟨_, SqL.of ef⟩, fun D nD => lc_list (xs := (intsN cs).map V.int) (Lc H' D fun j => (intsN (kept j)).map V.int) (lc_start nD rfl) (fun _ _ _ h => h.1.seq (SqL.of ef)) (fun j v H2 hv h => ?_) (fun H2 h => ?_)⟩
        · rw [List.getElem?_map, List.getElem?_map] at hv
          obtain ⟨c, hcj, rfl⟩ : ∃ c, cs[j]? = some c ∧ V.int (c : Int) = v := by
            cases e : cs[j]? with
            | none => rw [e] at hv; cases hv
            | some y => rw [e] at hv; exact ⟨y, rfl, Option.some.inj hv⟩
          have hk : kept (j + 1) = if 0 < c % x.1 then kept j ++ [c] else kept j := by
            show (cs.take (j + 1)).filter _ = _
            rw [List.take_add_one, hcj, List.filter_append]
            by_cases q0 : 0 < c % x.1 <;> simp [q0, kept]
          have hkl : (kept j).length ≤ 3 := by
            refine Nat.le_trans (List.length_filter_le _ _) ?_
            rw [List.length_take]
            omega
          refine ⟨rfl, _, rfl, .inl ⟨_, rfl, _, rfl, _, _, rfl, rfl, (show (0 : Int) < (x.1 : Nat) by omega), _, _, rfl, rfl, _, rfl, ite2 (fun z => ?_) (fun z => ?_)⟩⟩
          · have z : (0 : Int) < (c : Int) % (x.1 : Nat) := of_decide_eq_true z
            rw [if_pos (by omega)] at hk
            exact ⟨_, rfl, lc_leaf nD h.1 h.2 (by simp only [List.length_map]; omega) (by rw [hk]; simp [intsN])⟩
          · have z : ¬ (0 : Int) < (c : Int) % (x.1 : Nat) := fun y => z (decide_eq_true y)
            rw [if_neg (by omega)] at hk
            exact lc_skip h.1 h.2 (by rw [hk])
        · have e2 : H2 D = some (.lst ((intsN (kept cs.length)).map V.int)) := by
            have := h.2
            simpa using this
          have ek : kept cs.length = cs.filter fun c => decide (0 < c % x.1) := by simp [kept]
          refine ⟨Nat.zero_le _, fun p np => ?_⟩
          have s2 := h.1
          have sp := same_new np (.lst [])
          have stp := st.same (s2.trans sp)
          have efp := sp _ _ (s2 _ _ ef)
          refine ⟨.list ((intsN (kept cs.length)).map PyData.int), .list [], .lst (SqL.of (sp _ _ e2)) (dp_ints _), .lst (SqL.of upd_same) .nil, shaped_ints _, shaped_ints [], _, rfl, ?_⟩
          rw [eqv_nil]
          refine ite2 (fun c => ?_) (fun c => ?_)
          · have c : intsN (kept cs.length) = [] := of_decide_eq_true c
            have c0 : kept cs.length = [] := by simpa [intsN] using c
            have all : ∀ c ∈ cs, x.1 ∣ c := by
              intro c' hc'
              rw [ek, List.filter_eq_nil_iff] at c0
              have := c0 c' hc'
              simp only [decide_eq_true_eq] at this
              exact Nat.dvd_of_mod_eq_zero (by omega)
            refine ⟨_, rfl, _, rfl, d, l, _, rfl, stp.post, by omega, bdN (n := 3) (by omega) (by omega) (by decide), fun k H3 k0 k1 st3 => ?_⟩
            obtain ⟨k, rfl⟩ : ∃ n : Nat, k = (n : Int) := ⟨k.toNat, by omega⟩
            have hk : k < cs.length := by omega
            have ef3 := st3.lst nfl efp
            have stp3 := stp.trans st3
            have at_k : ((intsN cs).map V.int)[k]? = some (.int (cs[k] : Int)) := by
              rw [List.getElem?_map, List.getElem?_map, List.getElem?_eq_getElem hk]
              rfl
            refine ⟨_, rfl, _, rfl, fo, _, _, _, rfl, rfl, SqL.of ef3, atI_nat at_k, ?_⟩
            refine ⟨_, rfl, _, rfl, _, _, rfl, rfl, Bd.divOk (b := 133) (by omega) (by unfold Bd at *; omega) (by decide) _, _, _, rfl, rfl, .inl ⟨_, rfl, _, rfl, _, _, rfl, rfl, (show (0 : Int) < (mOf pw : Nat) by omega), ?_⟩⟩
            refine ⟨_, rfl, _, rfl, fo, _, _, k, rfl, rfl, ef3, ?_, ?_⟩
            · unfold ixN
              simp only [List.length_map]
              rw [if_pos (by omega), if_pos (by omega)]
              simp
            have ev : (((cs[k] : Nat) : Int) + ((mOf pw : Nat) : Int) / ((qOf x : Nat) : Int)) % ((mOf pw : Nat) : Int) = (((cs[k] + mOf pw / qOf x) % mOf pw : Nat) : Int) := by
              rw [Int.natCast_emod, Int.natCast_add, Int.natCast_ediv]
            obtain ⟨m1, m2⟩ := mend hP.ok hmem all hk
            refine ⟨cs.set k ((cs[k] + mOf pw / qOf x) % mOf pw), _, _, _, _, _, rfl, stp3.upd nfo, ?_, by rw [List.length_set]; exact el, ?_, ?_⟩
            · rw [upd_same, ← set_intsN, ← ev]
            · intro c hcm
              rcases List.mem_or_eq_of_mem_set hcm with z | z
              · exact hc c z
              · rw [z]
                exact Nat.mod_lt _ (by omega)
            · intro j y hj hy
              have hmk : (cs[k] + mOf pw / qOf x) % mOf pw ∈ cs.set k ((cs[k] + mOf pw / qOf x) % mOf pw) := by
                have := List.getElem_mem (l := cs.set k ((cs[k] + mOf pw / qOf x) % mOf pw)) (n := k) (by rw [List.length_set]; exact hk)
                rwa [List.getElem_set_self] at this
              by_cases e : j = i
              · subst e
                rw [hxp] at hy
                cases hy
                exact ⟨_, hmk, m1⟩
              · have hym := List.mem_of_getElem? hy
                obtain ⟨c', hc', nd⟩ := ok j y (by omega) hy
                have ne : y.1 ≠ x.1 := by
                  intro ee
                  have h1 : (pw.map (·.1))[j]? = some y.1 := by rw [List.getElem?_map, hy]; rfl
                  have h2 : (pw.map (·.1))[i]? = some x.1 := by rw [List.getElem?_map, hxp]; rfl
                  exact e (nd_ix hP.ok.nodup h1 (ee ▸ h2))
                obtain ⟨j', hj', ej⟩ := List.mem_iff_getElem.mp hc'
                by_cases ek' : j' = k
                · subst ek'
                  exact ⟨_, hmk, m2 y hym ne (by rw [ej]; exact nd)⟩
                · refine ⟨c', ?_, nd⟩
                  have := List.getElem_mem (l := cs.set k ((cs[k] + mOf pw / qOf x) % mOf pw)) (n := j') (by rw [List.length_set]; exact hj')
                  rw [List.getElem_set_ne (fun z => ek' z.symm)] at this
                  rw [← ej]
                  exact this
          · have c : ¬ intsN (kept cs.length) = [] := fun z => c (decide_eq_true z)
            refine ⟨cs, _, _, _, _, _, rfl, stp, efp, el, hc, fun j y hj hy => ?_⟩
            by_cases e : j = i
            · subst e
              rw [hxp] at hy
              cases hy
              have ne : kept cs.length ≠ [] := fun z => c (by rw [z]; rfl)
              obtain ⟨c', r, ec⟩ := List.exists_cons_of_ne_nil ne
              have : c' ∈ cs.filter fun c => decide (0 < c % x.1) := by rw [← ek, ec]; exact List.mem_cons_self
              obtain ⟨k1, k2⟩ := List.mem_filter.mp this
              refine ⟨c', k1, fun dv => ?_⟩
              have := Nat.mod_eq_zero_of_dvd dv
              simp only [decide_eq_true_eq] at k2
              omega
            · exact ok j y (by omega) hy
      · rintro σ H' ⟨cs, x5, x6, x7, x8, x9, rfl, st, ef, el, hc, ok⟩
        rw [List.length_map, hl] at ok
        refine ⟨cs, x5, x6, x7, x8, x9, rfl, st, ef, el, hc, fun x hx => ?_⟩
        obtain ⟨j, hj, e⟩ := List.mem_iff_getElem.mp hx
        exact ok j x hj (by rw [← e]; exact List.getElem?_eq_getElem hj)
    · rintro σ H' ⟨cs, x5, x6, x7, x8, x9, rfl, st, ef, el, hc, ok⟩
      refine ⟨_, rfl, fo, _, rfl, .inl ⟨SqL.of ef, fun p np => ?_⟩⟩
      exact q p cs _ (st.same (same_new np _)) (SqT.of upd_same) el hc ok
theorem cl__law_numbers {X : Cx} {p pos : Pos} {e : Expr} {es : List Expr} {t : TA} (T : Txt K mg) (hr : Room 3 X.A) (ha : PA X (e :: es) t) (hg : Gl X "_law_numbers" := by rfl)
    (he : starEach (e :: es) X.env = (false, eval e X.env) :: starEach es X.env := by rfl) (hpl : (backTo pos (starEach es X.env)).any (·.1) = false := by rfl) (hK : X.K = K := by rfl) (hmg : X.mg = mg := by rfl) :
    PE X (.Call (.Name "_law_numbers" p) (e :: es) [] pos) (tCall (sp__law_numbers K) [] E0 t) := by
  subst hK hmg
  exact pe_call (ok__law_numbers T) hr hg T.m__law_numbers T.F__law_numbers.kp T.b__law_numbers .nil pass0 ha (by decide) he hpl
end
end KL
namespace KL
open PySem PySem.Spec PyProof.Rows L2 RZ StX SrtO Kw KM
theorem inV_nat (p : Nat) : ∀ l : List Nat, inV (.int (p : Int)) ((intsN l).map V.int) = decide (p ∈ l)
  | [] => rfl
  | c :: r => by
    have ih := inV_nat p r
    unfold inV at *
    simp only [intsN, List.map_cons, List.any_cons] at *
    rw [ih]
    by_cases e : p = c
    · subst e
      simp [eqV]
    · have : ¬ ((c : Int) = (p : Int)) := fun z => e (by omega)
      simp [eqV, e, this]
theorem flat_nat : ∀ l : List Nat, ((intsN l).map V.int).all flatV = true
  | [] => rfl
  | c :: r => by
    have ih := flat_nat r
    simp only [intsN, List.map_cons, List.all_cons] at *
    rw [ih]
    rfl
theorem prodI_perm {a b : List Nat} (h : a.Perm b) : prodI a = prodI b := by
  induction h with
  | nil => rfl
  | cons x _ ih => rw [prodI_cons, prodI_cons, ih]
  | swap x y r => rw [prodI_cons, prodI_cons, prodI_cons, prodI_cons, Nat.mul_left_comm]
  | trans _ _ i1 i2 => exact i1.trans i2
theorem perm_nat {ns : List Int} {F : List Nat} (h : ns.Perm (intsN F)) : ∃ S : List Nat, ns = intsN S ∧ S.Perm F := by
  refine ⟨ns.map Int.toNat, ?_, ?_⟩
  · have : ∀ z ∈ ns, 0 ≤ z := fun z hz => by
      obtain ⟨n, _, e⟩ := List.mem_map.mp (h.mem_iff.mp hz)
      omega
    clear h
    induction ns with
    | nil => rfl
    | cons z r ih =>
      have h0 := this z List.mem_cons_self
      have := ih fun y hy => this y (List.mem_cons_of_mem _ hy)
      simp only [intsN, List.map_cons] at *
      rw [← this]
      congr 1
      omega
  · have := h.map Int.toNat
    have e : (intsN F).map Int.toNat = F := by
      unfold intsN
      rw [List.map_map]
      have : (Int.toNat ∘ fun p : Nat => (p : Int)) = id := by
        funext x
        simp
      rw [this, List.map_id]
    rw [e] at this
    exact this
/-- an ascending list within an ascending one is a part of it -/
theorem sub_of_asc : ∀ {l s : List Nat}, l.Pairwise (· < ·) → s.Pairwise (· < ·) → (∀ x ∈ s, x ∈ l) → s.Sublist l
  | [], s, _, _, h => by
    cases s with
    | nil => exact .slnil
    | cons x r => exact absurd (h x List.mem_cons_self) List.not_mem_nil
  | y :: l, [], _, _, _ => List.nil_sublist _
  | y :: l, x :: r, hl, hs, h => by
    have hl' := List.pairwise_cons.mp hl
    have hs' := List.pairwise_cons.mp hs
    rcases List.mem_cons.mp (h x List.mem_cons_self) with e | hx
    · subst e
      refine List.Sublist.cons_cons _ (sub_of_asc hl'.2 hs'.2 fun z hz => ?_)
      rcases List.mem_cons.mp (h z (List.mem_cons_of_mem _ hz)) with e | k
      · have := hs'.1 z hz
        omega
      · exact k
    · refine List.Sublist.cons _ (sub_of_asc hl'.2 hs fun z hz => ?_)
      rcases List.mem_cons.mp (h z hz) with e | k
      · subst e
        have := hl'.1 x hx
        rcases List.mem_cons.mp hz with e | k
        · omega
        · have := hs'.1 z k
          omega
      · exact k
theorem mOf_append : ∀ (pw : List (Nat × Nat)) (x : Nat × Nat), mOf (pw ++ [x]) = mOf pw * qOf x
  | [], x => by simp [mOf, qOf]
  | y :: r, x => by
    show y.1 ^ y.2 * mOf (r ++ [x]) = y.1 ^ y.2 * mOf r * qOf x
    rw [mOf_append r x, Nat.mul_assoc]
theorem prodP_map : ∀ pw : List (Nat × Nat), prodP pw = prodI (pw.map (·.1))
  | [] => rfl
  | x :: r => by
    show x.1 * prodP r = prodI (x.1 :: r.map (·.1))
    rw [prodI_cons, prodP_map r]
def SOME : List Nat := [2, 2, 3, 3, 5, 7, 11, 13, 17, 19, 23, 29]
theorem SOME_PN : ∀ p ∈ SOME, p ∈ PN := by decide
section
variable {P : Program} {w : World} {K : PySem.W.Frag} {mg : Str → Option Value} {base : Heap}
def sp__law_powers (K : PySem.W.Frag) : Sp := fun vs H Q _ => ∃ (d l : Addr) (top : Int), vs = [.ref d, .int top, .int 1000] ∧ (∃ B : Nat, 1 < B ∧ B ≤ 10 ^ 40 ∧ top = (B : Int)) ∧ DeckAt H d l ∧
  ∀ (p : Addr) (pw : List (Nat × Nat)) (H' : Hp), Stp d l H H' → p ≠ l → PerD pw → PwAt K H' p pw → Q (.ref p) H'
/-- what stands at the addresses of pairs -/
def Tups (K : PySem.W.Frag) (H : Hp) (as : List Addr) (pw : List (Nat × Nat)) : Prop := as.length = pw.length ∧ ∀ (i : Nat) (t : Addr) (x : Nat × Nat), as[i]? = some t → pw[i]? = some x → SqT K H t [.int x.1, .int ((qOf x : Nat) : Int)]
theorem Tups.snoc {H : Hp} {as : List Addr} {pw : List (Nat × Nat)} {t : Addr} {x : Nat × Nat} (h : Tups K H as pw) (ht : SqT K H t [.int x.1, .int ((qOf x : Nat) : Int)]) : Tups K H (as ++ [t]) (pw ++ [x]) := by
  refine ⟨by simp [h.1], fun i u y h1 h2 => ?_⟩
  rcases Nat.lt_or_ge i as.length with c | c
  · rw [List.getElem?_append_left c] at h1
    rw [List.getElem?_append_left (h.1 ▸ c)] at h2
    exact h.2 i u y h1 h2
  · rw [List.getElem?_append_right c] at h1
    rw [List.getElem?_append_right (h.1 ▸ c)] at h2
    have e : i - as.length = 0 := by
      have := (List.getElem?_eq_some_iff.mp h1).1
      simp at this
      omega
    rw [e] at h1
    rw [← h.1, e] at h2
    cases h1
    cases h2
    exact ht
end
end KL
namespace KL
open PySem PySem.Spec PyProof.Rows L2 RZ StX SrtO Kw KM
section
variable {P : Program} {w : World} {K : PySem.W.Frag} {mg : Str → Option Value} {base : Heap}
theorem Tups.stp {d l : Addr} {H H' : Hp} {as : List Addr} {pw : List (Nat × Nat)} (s : Stp d l H H') (h : Tups K H as pw) : Tups K H' as pw := ⟨h.1, fun i t x h1 h2 => s.sqt (h.2 i t x h1 h2)⟩
theorem Tups.same {H H' : Hp} {as : List Addr} {pw : List (Nat × Nat)} (s : Same H H') (h : Tups K H as pw) : Tups K H' as pw := ⟨h.1, fun i t x h1 h2 => s.sqt (h.2 i t x h1 h2)⟩
/-- a list changes: the tuples stay -/
theorem sqt_updL {H : Hp} {a p : Addr} {xs ys zs : List V} (e : H p = some (.lst ys)) (h : SqT K H a xs) : SqT K (upd H p (.lst zs)) a xs := by
  rcases h with (h | ⟨o, h⟩) | h
  · exact .inl (.inl (by rw [upd_ne (ne_of h e (by intro z; cases z))]; exact h))
  · exact .inl (.inr ⟨o, by rw [upd_ne (ne_of h e (by intro z; cases z))]; exact h⟩)
  · exact .inr h
theorem Tups.updL {H : Hp} {p : Addr} {ys zs : List V} {as : List Addr} {pw : List (Nat × Nat)} (e : H p = some (.lst ys)) (h : Tups K H as pw) : Tups K (upd H p (.lst zs)) as pw :=
  ⟨h.1, fun i t x h1 h2 => sqt_updL e (h.2 i t x h1 h2)⟩
theorem ok__law_powers (T : Txt K mg) : FnOk P w K mg base CX0 3 T.a__law_powers T.d__law_powers ["_law_deck_here", "_law_top", "_law_most"] (sp__law_powers K) := by
  refine T.F__law_powers.ok sc__law_powers (fun vs H Q E h => ?_) (fun cdv A outer s H vs Q E hr h => ?_)
  · obtain ⟨d, l, top, rfl, _⟩ := h
    rfl
  obtain ⟨d, l, top, rfl, htop, hD, q⟩ := h
  refine ⟨_, pss_cons (ps_asg (pe_tup (pa_cons (pe_lst (pa_cons pe_int (pa_cons pe_int (pa_cons pe_int (pa_cons pe_int (pa_cons pe_int (pa_cons pe_int (pa_cons pe_int (pa_cons pe_int (pa_cons pe_int (pa_cons pe_int (pa_cons pe_int (pa_cons pe_int pa_nil))))))))))))) (pa_cons pe_int (pa_cons (pv 2) (pa_cons (pe_lst pa_nil) pa_nil))))) (pg_tup (by rfl) (pgs_cons (pg_name (i := 3) sc__law_powers.nd rfl (Or.inl rfl)) (pgs_cons (pg_name (i := 4) sc__law_powers.nd rfl (Or.inl rfl)) (pgs_cons (pg_name (i := 5) sc__law_powers.nd rfl (Or.inl rfl)) (pgs_cons (pg_name (i := 6) sc__law_powers.nd rfl (Or.inl rfl)) pgs_nil))))))
    (pss_cons (ps_set (i := 7) sc__law_powers.nd rfl (Or.inl rfl) (cl__law_draw T (hr.mono (by decide)) (pa_cons (pv 0) (pa_cons pe_int pa_nil))))
    (Evl.pss_cut (ps_for PassesOwn.never rfl (pi_range1 (by rfl) T.n_range (pa_cons (cl__law_pick T (hr.mono (by decide)) (pa_cons (pv 0) (pa_cons (pe_lst (pa_cons pe_int (pa_cons pe_int (pa_cons pe_int (pa_cons pe_int (pa_cons pe_int (pa_cons pe_int (pa_cons pe_int (pa_cons pe_int (pa_cons pe_int pa_nil)))))))))) pa_nil))) pa_nil)) (pg_name (i := 8) sc__law_powers.nd rfl (Or.inl rfl)) (pss_cons (ps_set (i := 9) sc__law_powers.nd rfl (Or.inl rfl) (cl__law_pick T (hr.mono (by decide)) (pa_cons (pv 0) (pa_cons (pv 3) pa_nil))))
        (pss_one (ps_if (PW.pt (pw_and (pt_cmpR op_notIn_seq (pv 9) (pv 6) (by rfl)) (pw_and (pt_cmpR op_le (pv 9) (pv 5) (nomark _)) (pw_and1 (pt_cmpR op_lt (pe_op op_mul (pv 4) (pv 9)) (pv 1) (nomark _)))))) (pss_cons (ps_expr (pe_bm PySem.F.plainAttrs_list PySem.F.slot_list_append PySem.F.type_list_append mt_append (pv 6) (pa_cons (pv 9) pa_nil)))
            (pss_one (ps_par (i := 4) (j := 5) (by rfl) sc__law_powers.nd rfl rfl (by decide) rfl rfl (pa_cons (pe_op op_mul (pv 4) (pv 9)) (pa_cons (pe_op op_fdivW (pv 5) (pv 9)) pa_nil)) (by rfl)))) pss_nil))))
    (pss_cons (ps_set (i := 10) sc__law_powers.nd rfl (Or.inl rfl) (pe_lst pa_nil))
    (pss_cons (ps_for PassesOwn.never rfl (pi_list (pe_callB cr_sortedI (by rfl) T.n_sorted (by decide +kernel) (pa_cons (pv 6) pa_nil))) (pg_name (i := 9) sc__law_powers.nd rfl (Or.inl rfl)) (pss_cons (ps_set (i := 11) sc__law_powers.nd rfl (Or.inl rfl) (pv 9))
        (Evl.pss_cut (ps_for PassesOwn.never rfl (pi_range1 (by rfl) T.n_range (pa_cons (cl__law_draw T (hr.mono (by decide)) (pa_cons (pv 0) (pa_cons (pe_ix ix_list (pe_lst (pa_cons pe_int (pa_cons pe_int (pa_cons pe_int (pa_cons pe_int pa_nil))))) (pv 7) (fun _ _ => rfl)) pa_nil))) pa_nil)) (pg_name (i := 8) sc__law_powers.nd rfl (Or.inl rfl)) (pss_one (ps_if (pt_cmpR op_lt (pe_op op_mul (pv 4) (pv 9)) (pv 1) (nomark _)) (pss_one (ps_par (i := 11) (j := 4) (by rfl) sc__law_powers.nd rfl rfl (by decide) rfl rfl (pa_cons (pe_op op_mul (pv 11) (pv 9)) (pa_cons (pe_op op_mul (pv 4) (pv 9)) pa_nil)) (by rfl))) pss_nil)))
        (pss_one (ps_expr (pe_bm PySem.F.plainAttrs_list PySem.F.slot_list_append PySem.F.type_list_append mt_append (pv 10) (pa_cons (pe_tup (pa_cons (pv 9) (pa_cons (pv 11) pa_nil))) pa_nil)))))))
    (pss_one (ps_ret (pv 10))))))), ?_⟩
  have small : ∀ n : Nat, n < 1000 → Bd 2000 (n : Int) := fun n h => bdN (n := n) (by omega) (by omega) (Nat.lt_of_lt_of_le h (by decide))
  obtain ⟨B, B1, hB, rfl⟩ := htop
  -- the four names
  refine ⟨(by show 12 ≤ sizeLine; decide), fun so nso => ?_⟩
  refine ⟨_, rfl, Nat.zero_le _, fun fo nfo => ⟨(by show 4 ≤ sizeLine; decide), fun tp ntp => ?_⟩⟩
  refine ⟨tp, _, rfl, SqT.of upd_same, rfl, _, _, rfl, _, _, rfl, _, _, rfl, _, _, rfl, rfl, ?_⟩
  have sA := same_new nso (.lst ((intsN SOME).map V.int))
  have sB := same_new nfo (.lst [])
  have sC := same_new ntp (.tup [V.ref so, V.int 1, V.int 1000, V.ref fo])
  have eso := sC _ _ (sB _ _ (upd_same (H := H) (a := so) (o := .lst ((intsN SOME).map V.int))))
  have efo := sC _ _ (upd_same (H := upd H so (.lst ((intsN SOME).map V.int))) (a := fo) (o := .lst []))
  have sABC := (sA.trans sB).trans sC
  have nfo0 : H fo = none := sA.free nfo
  have nsf : so ≠ fo := ne_of_none (upd_same (H := H) (a := so) (o := .lst ((intsN SOME).map V.int))) nfo
  have st0 := hD.stp sABC
  have nsl := hD.off nso
  have nfl := hD.off nfo0
  generalize upd (upd (upd H so (.lst ((intsN SOME).map V.int))) fo (.lst [])) tp (.tup [V.ref so, V.int 1, V.int 1000, V.ref fo]) = H0 at sC eso efo sABC st0
  refine ⟨_, rfl, d, l, 4, rfl, st0.post, by decide, small 4 (by decide), fun way H1 w0 w1 st1 => ?_⟩
  have st01 := st0.trans st1
  have eso1 := st1.lst nsl eso
  have efo1 := st1.lst nfl efo
  -- the primes are drawn
  refine ⟨fun σ H' => ∃ (F : List Nat) (rest : Nat) (x8 x9 : Option V), σ = [some (.ref d), some (.int (B : Int)), some (.int 1000), some (.ref so), some (.int ((prodI F : Nat) : Int)), some (.int (rest : Int)), some (.ref fo), some (.int way), x8, x9, none, none] ∧ Stp d l H H' ∧ H' so = some (.lst ((intsN SOME).map V.int)) ∧ H' fo = some (.lst ((intsN F).map V.int)) ∧ F.Nodup ∧ (∀ p ∈ F, p ∈ PN) ∧ prodI F ≤ 1000 ∧ prodI F < B, ?_, ?_⟩
  · refine ⟨_, rfl, (by show 9 ≤ sizeLine; decide), fun z nz => ?_⟩
    have sz := same_new nz (.lst [V.int 0, V.int 1, V.int 1, V.int 2, V.int 2, V.int 3, V.int 4, V.int 6, V.int 6])
    refine ⟨d, l, z, _, rfl, st1.post.same sz, SqL.of upd_same, st1.post.off nz, by show 1 ≤ 9; decide, by show 9 ≤ 1000; decide, fun v H2 hv st2 => ?_⟩
    have st02 := (st01.same sz).trans st2
    obtain ⟨n, rfl, hn⟩ : ∃ n : Nat, v = .int (n : Int) ∧ n ≤ 6 := by
      simp only [List.mem_cons, List.not_mem_nil, or_false] at hv
      rcases hv with rfl | rfl | rfl | rfl | rfl | rfl | rfl | rfl | rfl
      · exact ⟨0, rfl, by decide⟩
      · exact ⟨1, rfl, by decide⟩
      · exact ⟨1, rfl, by decide⟩
      · exact ⟨2, rfl, by decide⟩
      · exact ⟨2, rfl, by decide⟩
      · exact ⟨3, rfl, by decide⟩
      · exact ⟨4, rfl, by decide⟩
      · exact ⟨6, rfl, by decide⟩
      · exact ⟨6, rfl, by decide⟩
    refine ⟨n, rfl, by omega, by omega, for_range (lo := 0) (n := ((n : Nat) : Int).toNat) (fun i σ H' => ∃ (F : List Nat) (rest : Nat) (x8 x9 : Option V), σ = [some (.ref d), some (.int (B : Int)), some (.int 1000), some (.ref so), some (.int ((prodI F : Nat) : Int)), some (.int (rest : Int)), some (.ref fo), some (.int way), x8, x9, none, none] ∧ Stp d l H H' ∧ H' so = some (.lst ((intsN SOME).map V.int)) ∧ H' fo = some (.lst ((intsN F).map V.int)) ∧ F.Nodup ∧ (∀ p ∈ F, p ∈ PN) ∧ 1 ≤ rest ∧ prodI F * rest ≤ 1000 ∧ prodI F < B ∧ F.length ≤ i) ⟨[], 1000, none, none, rfl, st02, st2.lst nsl (sz _ _ eso1), st2.lst nfl (sz _ _ efo1), List.nodup_nil, (fun _ h => absurd h List.not_mem_nil), by decide, by decide, B1, Nat.le_refl _⟩ ?_ ?_⟩
    · rintro i σ H' hi ⟨F, rest, x8, x9, rfl, st, es, ef, nd, hPN, r1, r2, r3, r4⟩
      refine ⟨_, rfl, _, rfl, d, l, so, _, rfl, st.post, SqL.of es, nsl, by show 1 ≤ 12; decide, by show 12 ≤ 1000; decide, fun v H3 hv st3 => ?_⟩
      obtain ⟨p, hp, rfl⟩ : ∃ p : Nat, p ∈ SOME ∧ v = .int (p : Int) := by
        obtain ⟨z, hz, rfl⟩ := List.mem_map.mp hv
        obtain ⟨p, hp, rfl⟩ := List.mem_map.mp hz
        exact ⟨p, hp, rfl⟩
      have pPN := SOME_PN p hp
      have p2 := PN_lt p pPN
      have es3 := st3.lst nsl es
      have ef3 := st3.lst nfl ef
      have stt := st.trans st3
      have stay : ∃ (F : List Nat) (rest' : Nat) (x8' x9' : Option V), [some (.ref d), some (.int (B : Int)), some (.int 1000), some (.ref so), some (.int ((prodI F : Nat) : Int)), some (.int (rest' : Int)), some (.ref fo), some (.int way), x8', x9', none, none] = [some (.ref d), some (.int (B : Int)), some (.int 1000), some (.ref so), some (.int ((prodI F : Nat) : Int)), some (.int (rest : Int)), some (.ref fo), some (.int way), some (.int (0 + (i : Int))), some (.int (p : Int)), none, none] := ⟨F, rest, _, _, rfl⟩
      refine ⟨_, rfl, _, rfl, fo, _, rfl, .inl (SqL.of ef3), rfl, flat_nat F, _, rfl, ?_⟩
      rw [inV_nat]
      refine ite2 (fun c => ?_) (fun c => ?_)
      · have hpF : p ∉ F := by
          intro z
          rw [decide_eq_true z] at c
          cases c
        refine ⟨_, rfl, _, rfl, _, _, rfl, rfl, _, rfl, ite2 (fun c2 => ?_) (fun c2 => ?_)⟩
        · have c2 : (p : Int) ≤ rest := of_decide_eq_true c2
          refine ⟨_, rfl, _, rfl, _, _, rfl, rfl, .inr ⟨by omega, by omega⟩, _, rfl, _, _, rfl, rfl, _, rfl, ite2 (fun c3 => ?_) (fun c3 => ?_)⟩
          · have c3 : ((prodI F : Nat) : Int) * (p : Int) < (B : Int) := of_decide_eq_true c3
            refine ⟨_, rfl, .inl ⟨rfl, _, SqL.of ef3⟩, _, rfl, fo, _, _, rfl, rfl, ef3, ?_, ?_⟩
            · simp only [List.length_map]
              exact Nat.lt_of_lt_of_le (show F.length < 10 by omega) (by decide)
            refine ⟨_, rfl, _, rfl, _, _, rfl, rfl, .inr ⟨by omega, by omega⟩, _, rfl, _, rfl, _, _, rfl, rfl, Bd.divOk (b := 5) (by omega) (by unfold Bd; omega) (by decide) _, _, _, rfl, ?_⟩
            have e1 : prodI (F ++ [p]) = prodI F * p := prodI_snoc F p
            refine ⟨F ++ [p], rest / p, some (.int (0 + (i : Int))), some (.int (p : Int)), ?_, stt.upd nfo0, ?_, ?_, ?_, ?_, ?_, ?_, ?_, ?_⟩
            · rw [e1, Int.natCast_mul, Int.natCast_ediv]
              rfl
            · rw [upd_ne nsf]
              exact es3
            · rw [upd_same]
              simp [intsN]
            · exact List.nodup_append.mpr ⟨nd, by simp, fun a ha b hb => by
                rw [List.mem_singleton.mp hb]
                exact fun z => hpF (z ▸ ha)⟩
            · intro y hy
              rcases List.mem_append.mp hy with k | k
              · exact hPN y k
              · rw [List.mem_singleton.mp k]
                exact pPN
            · exact (Nat.le_div_iff_mul_le (by omega)).mpr (by omega)
            · rw [e1, Nat.mul_assoc]
              exact Nat.le_trans (Nat.mul_le_mul_left _ (Nat.mul_div_le rest p)) r2
            · rw [e1]
              rw [← Int.natCast_mul] at c3
              omega
            · simp
              omega
          · exact ⟨F, rest, _, _, rfl, stt, es3, ef3, nd, hPN, r1, r2, r3, by omega⟩
        · exact ⟨F, rest, _, _, rfl, stt, es3, ef3, nd, hPN, r1, r2, r3, by omega⟩
      · exact ⟨F, rest, _, _, rfl, stt, es3, ef3, nd, hPN, r1, r2, r3, by omega⟩
    · rintro σ H' ⟨F, rest, x8, x9, rfl, st, es, ef, nd, hPN, r1, r2, r3, r4⟩
      exact ⟨F, rest, x8, x9, rfl, st, es, ef, nd, hPN, Nat.le_trans (Nat.le_mul_of_pos_right _ r1) r2, r3⟩
  · rintro σ H2 ⟨F, rest, x8, x9, rfl, st2, es, ef, nd, hPN, r2, r3⟩
    refine ⟨Nat.zero_le _, fun pa npa => ?_⟩
    have spa := same_new npa (.lst [])
    have npa0 := st2.free npa
    have npl := st2.post.off npa
    have st3 := st2.same spa
    have ef3 := spa _ _ ef
    refine ⟨_, rfl, fo, _, rfl, SqL.of ef3, fun ns sl hperm hpw nsl2 => ?_⟩
    obtain ⟨S, rfl, hS⟩ := perm_nat hperm
    have ssl := same_new nsl2 (.lst ((intsN S).map V.int))
    have st4 := st3.same ssl
    have nslpa : sl ≠ pa := (ne_of_none (upd_same (H := H2) (a := pa) (o := .lst [])) nsl2).symm
    have esl : (upd (upd H2 pa (.lst [])) sl (.lst ((intsN S).map V.int))) sl = some (.lst ((intsN S).map V.int)) := upd_same
    have epa : (upd (upd H2 pa (.lst [])) sl (.lst ((intsN S).map V.int))) pa = some (.lst []) := ssl _ _ upd_same
    have nsll := st3.post.off nsl2
    have hasc : S.Pairwise (· < ·) := by
      have h1 : S.Pairwise (· ≤ ·) := by
        have := List.pairwise_map.mp hpw
        exact this.imp fun {a b} h => by omega
      have h2 : S.Nodup := hS.nodup_iff.mpr nd
      exact (List.pairwise_and_iff.mpr ⟨h1, h2⟩).imp fun {a b} h => by have := h.1; have := h.2; omega
    have hSPN : ∀ p ∈ S, p ∈ PN := fun p hp => hPN p (hS.mem_iff.mp hp)
    have hsub : S.Sublist PN := sub_of_asc (by decide) hasc hSPN
    have hSp : prodI S = prodI F := prodI_perm hS
    generalize hH4 : upd (upd H2 pa (.lst [])) sl (.lst ((intsN S).map V.int)) = H4 at st4 esl epa
    refine ⟨sl, rfl, ⟨_, SqL.of esl⟩, for_list (xs := (intsN S).map V.int) (fun i σ H' => ∃ (pw : List (Nat × Nat)) (as : List Addr) (x8 x9 x11 : Option V), σ = [some (.ref d), some (.int (B : Int)), some (.int 1000), some (.ref so), some (.int ((mOf pw * prodI (S.drop i) : Nat) : Int)), some (.int (rest : Int)), some (.ref fo), some (.int way), x8, x9, some (.ref pa), x11] ∧ Stp d l H H' ∧ H' sl = some (.lst ((intsN S).map V.int)) ∧ H' pa = some (.lst (as.map V.ref)) ∧ Tups K H' as pw ∧ pw.map (·.1) = S.take i ∧ (∀ x ∈ pw, 1 ≤ x.2) ∧ mOf pw * prodI (S.drop i) < B) ⟨[], [], x8, x9, none, ?_, st4, esl, epa, ⟨rfl, fun i t x h => by cases h⟩, rfl, (fun _ h => absurd h List.not_mem_nil), ?_⟩ ?_ ?_ ?_⟩
    · rw [show mOf [] * prodI (S.drop 0) = prodI F by rw [List.drop_zero, hSp]; exact Nat.one_mul _]
      rfl
    · rw [show mOf [] * prodI (S.drop 0) = prodI F by rw [List.drop_zero, hSp]; exact Nat.one_mul _]
      exact r3
    · rintro i σ H' _ ⟨pw, as, x8, x9, x11, rfl, st, e1, _⟩
      exact SqL.of e1
    · rintro i v σ H' hv ⟨pw, as, x8, x9, x11, rfl, st, e1, e2, tu, hmap, hpos, hlt⟩
      rw [List.getElem?_map, List.getElem?_map] at hv
      obtain ⟨p, hp, rfl⟩ : ∃ p, S[i]? = some p ∧ V.int (p : Int) = v := by
        cases e : S[i]? with
        | none => rw [e] at hv; cases hv
        | some y => rw [e] at hv; exact ⟨y, rfl, Option.some.inj hv⟩
      have pPN := hSPN p (List.mem_of_getElem? hp)
      have p2 := PN_lt p pPN
      have hdrop : S.drop i = p :: S.drop (i + 1) := by
        obtain ⟨hi, rfl⟩ := List.getElem?_eq_some_iff.mp hp
        exact List.drop_eq_getElem_cons hi
      have hprod : mOf pw * prodI (S.drop i) = mOf pw * p ^ 1 * prodI (S.drop (i + 1)) := by
        rw [hdrop, prodI_cons, Nat.pow_one, Nat.mul_assoc]
      refine ⟨_, rfl, ?_⟩
      refine ⟨fun σ H3 => ∃ (k : Nat) (x8 : Option V), 1 ≤ k ∧ σ = [some (.ref d), some (.int (B : Int)), some (.int 1000), some (.ref so), some (.int ((mOf pw * p ^ k * prodI (S.drop (i + 1)) : Nat) : Int)), some (.int (rest : Int)), some (.ref fo), some (.int way), x8, some (.int (p : Int)), some (.ref pa), some (.int ((p ^ k : Nat) : Int))] ∧ Stp d l H H3 ∧ H3 sl = some (.lst ((intsN S).map V.int)) ∧ H3 pa = some (.lst (as.map V.ref)) ∧ Tups K H3 as pw ∧ mOf pw * p ^ k * prodI (S.drop (i + 1)) < B, ?_, ?_⟩
      · refine ⟨_, rfl, (by show 4 ≤ sizeLine; decide), fun z nz => ?_⟩
        have sz := same_new nz (.lst [V.int 1, V.int 3, V.int 14, V.int 140])
        obtain ⟨n, hn, n1, n2⟩ : ∃ n : Nat, atI [V.int 1, V.int 3, V.int 14, V.int 140] way = some (.int (n : Int)) ∧ 1 ≤ n ∧ n ≤ 140 := by
          rcases (show way = 0 ∨ way = 1 ∨ way = 2 ∨ way = 3 by omega) with rfl | rfl | rfl | rfl
          · exact ⟨1, rfl, by decide, by decide⟩
          · exact ⟨3, rfl, by decide, by decide⟩
          · exact ⟨14, rfl, by decide, by decide⟩
          · exact ⟨140, rfl, by decide, by decide⟩
        refine ⟨_, rfl, z, _, _, _, rfl, rfl, SqL.of upd_same, hn, d, l, _, rfl, (st.post.same sz), by omega, small n (by omega), fun v H3 v0 v1 st3 => ?_⟩
        have stt := (st.same sz).trans st3
        refine ⟨v, rfl, by omega, by omega, for_range (lo := 0) (n := v.toNat) (fun j σ H3 => ∃ (k : Nat) (x8 : Option V), 1 ≤ k ∧ σ = [some (.ref d), some (.int (B : Int)), some (.int 1000), some (.ref so), some (.int ((mOf pw * p ^ k * prodI (S.drop (i + 1)) : Nat) : Int)), some (.int (rest : Int)), some (.ref fo), some (.int way), x8, some (.int (p : Int)), some (.ref pa), some (.int ((p ^ k : Nat) : Int))] ∧ Stp d l H H3 ∧ H3 sl = some (.lst ((intsN S).map V.int)) ∧ H3 pa = some (.lst (as.map V.ref)) ∧ Tups K H3 as pw ∧ mOf pw * p ^ k * prodI (S.drop (i + 1)) < B) ⟨1, x8, Nat.le_refl _, ?_, stt, st3.lst nsll (sz _ _ e1), st3.lst npl (sz _ _ e2), (tu.same sz).stp st3, by rw [← hprod]; exact hlt⟩ ?_ ?_⟩
        · rw [← hprod, Nat.pow_one]
          rfl
        · rintro j σ H5 _ ⟨k, x8, k1, rfl, st5, f1, f2, tu5, lt5⟩
          refine ⟨_, rfl, _, rfl, _, _, rfl, rfl, .inr ⟨by omega, by omega⟩, _, rfl, _, _, rfl, rfl, _, rfl, ite2 (fun c => ?_) (fun c => ?_)⟩
          · have c : ((mOf pw * p ^ k * prodI (S.drop (i + 1)) : Nat) : Int) * (p : Int) < (B : Int) := of_decide_eq_true c
            have e3 : mOf pw * p ^ (k + 1) * prodI (S.drop (i + 1)) = mOf pw * p ^ k * prodI (S.drop (i + 1)) * p := by
              rw [Nat.pow_succ]
              simp only [Nat.mul_assoc, Nat.mul_comm, Nat.mul_left_comm]
            refine ⟨_, rfl, _, rfl, _, _, rfl, rfl, .inr ⟨by omega, by omega⟩, _, rfl, _, rfl, _, _, rfl, rfl, .inr ⟨by omega, by omega⟩, _, _, rfl, ?_⟩
            refine ⟨k + 1, some (.int (0 + (j : Int))), by omega, ?_, st5, f1, f2, tu5, ?_⟩
            · rw [e3, Nat.pow_succ, Int.natCast_mul (_ * _ * _) p, Int.natCast_mul (p ^ k) p]
              rfl
            · rw [e3]
              rw [← Int.natCast_mul] at c
              omega
          · exact ⟨k, _, k1, rfl, st5, f1, f2, tu5, lt5⟩
        · rintro σ H5 ⟨k, x8, k1, rfl, st5, f1, f2, tu5, lt5⟩
          exact ⟨k, x8, k1, rfl, st5, f1, f2, tu5, lt5⟩
      · rintro σ H5 ⟨k, x8, k1, rfl, st5, f1, f2, tu5, lt5⟩
        refine ⟨_, rfl, .inl ⟨rfl, _, SqL.of f2⟩, _, rfl, _, rfl, (by show 2 ≤ sizeLine; decide), fun tq ntq => ?_⟩
        have stq := same_new ntq (.tup [V.int (p : Int), V.int ((p ^ k : Nat) : Int)])
        have g2 := stq _ _ f2
        have g1 := stq _ _ f1
        have al : as.length = i := by
          have := congrArg List.length hmap
          simp only [List.length_map, List.length_take] at this
          have hi := (List.getElem?_eq_some_iff.mp hp).1
          rw [tu5.1]
          omega
        have hi10 : i < 10 := by
          have hi := (List.getElem?_eq_some_iff.mp hp).1
          have := hsub.length_le
          have : S.length ≤ 10 := this
          omega
        refine ⟨pa, _, _, rfl, rfl, g2, ?_, ?_⟩
        · rw [List.length_map, al]
          exact Nat.lt_of_lt_of_le hi10 (by decide)
        refine ⟨pw ++ [(p, k)], as ++ [tq], x8, some (.int (p : Int)), some (.int ((p ^ k : Nat) : Int)), ?_, (st5.same stq).upd npa0, ?_, ?_, ?_, ?_, ?_, ?_⟩
        · rw [mOf_append]
        · rw [upd_ne nslpa]
          exact g1
        · rw [upd_same, List.map_append]
          rfl
        · exact ((tu5.same stq).snoc (x := (p, k)) (SqT.of upd_same)).updL g2
        · rw [List.map_append, hmap, List.take_add_one, hp]
          rfl
        · intro x hx
          rcases List.mem_append.mp hx with z | z
          · exact hpos x z
          · rw [List.mem_singleton.mp z]
            exact k1
        · rw [mOf_append]
          exact lt5
    · rintro σ H' ⟨pw, as, x8, x9, x11, rfl, st, e1, e2, tu, hmap, hpos, hlt⟩
      have eL : ((intsN S).map V.int).length = S.length := by simp
      rw [eL] at hmap hlt
      rw [List.take_length] at hmap
      rw [List.drop_length] at hlt
      have hPw : Pw pw := ⟨by rw [hmap]; exact hsub, hpos⟩
      refine ⟨_, rfl, q pa pw H' st npl ⟨hPw, ?_, ?_⟩ ⟨as, SqL.of e2, tu.1, tu.2⟩⟩
      · rw [prodP_map, hmap, hSp]
        exact r2
      · refine Nat.lt_of_lt_of_le ?_ hB
        have : prodI [] = 1 := rfl
        rw [this, Nat.mul_one] at hlt
        exact hlt
theorem cl__law_powers {X : Cx} {p pos : Pos} {e : Expr} {es : List Expr} {t : TA} (T : Txt K mg) (hr : Room 3 X.A) (ha : PA X (e :: es) t) (hg : Gl X "_law_powers" := by rfl)
    (he : starEach (e :: es) X.env = (false, eval e X.env) :: starEach es X.env := by rfl) (hpl : (backTo pos (starEach es X.env)).any (·.1) = false := by rfl) (hK : X.K = K := by rfl) (hmg : X.mg = mg := by rfl) :
    PE X (.Call (.Name "_law_powers" p) (e :: es) [] pos) (tCall (sp__law_powers K) [] E0 t) := by
  subst hK hmg
  exact pe_call (ok__law_powers T) hr hg T.m__law_powers T.F__law_powers.kp T.b__law_powers .nil pass0 ha (by decide) he hpl
end
end KL
namespace KL
open PySem PySem.Spec PyProof.Rows L2 RZ StX SrtO Kw KM
theorem dot_unit (u m : Int) : ∀ (cs xs : List Int), (dotI (cs.map fun c => (u * c) % m) xs) % m = (u * dotI cs xs) % m
  | [], xs => by
    show (0 : Int) % m = (u * dotI [] xs) % m
    rw [show dotI [] xs = 0 from rfl, Int.mul_zero]
  | c :: cs, [] => by
    show (0 : Int) % m = (u * dotI (c :: cs) []) % m
    rw [show dotI (c :: cs) [] = 0 from rfl, Int.mul_zero]
  | c :: cs, x :: xs => by
    have ih := dot_unit u m cs xs
    rw [List.map_cons, dot_cons, dot_cons, Int.mul_add, Int.add_emod, ih, ← Int.mul_assoc]
    rw [Int.mul_emod, Int.emod_emod, ← Int.mul_emod, ← Int.add_emod]
theorem dvd_unit {u m a b : Int} (h : a % m = (u * b) % m) (hb : m ∣ b) : m ∣ a := by
  have : (u * b) % m = 0 := Int.emod_eq_zero_of_dvd (Int.dvd_trans hb (Int.dvd_mul_left _ _))
  rw [this] at h
  exact Int.dvd_of_emod_eq_zero h
theorem natAbs_unit {u : Nat} {p : Nat} {c : Int} (hp : p ∈ PN) (hu : ¬ p ∣ u) (hc : ¬ (p : Int) ∣ c) : ¬ (p : Int) ∣ (u : Int) * c := by
  intro h
  have h := Int.ofNat_dvd_left.mp h
  rw [Int.natAbs_mul, Int.natAbs_natCast] at h
  rcases dvd_mul_of hp h with k | k
  · exact hu k
  · exact hc (Int.ofNat_dvd_left.mpr k)
/-- numbers below the period, no prime in all of them: a stripe with any r -/
theorem SOk.mk' {pw : List (Nat × Nat)} (hP : PerD pw) {cs : List Int} {r : Int} (l1 : 1 ≤ cs.length) (l3 : cs.length ≤ 3) (c0 : ∀ c ∈ cs, 0 ≤ c ∧ c < (mOf pw : Nat))
    (ok : ∀ x ∈ pw, ∃ c ∈ cs, ¬ (x.1 : Int) ∣ c) (r0 : 0 ≤ r ∧ r < (mOf pw : Nat)) : SOk pw cs r := ⟨hP.per, l1, l3, c0, r0, gcdL_one hP.ok ok⟩
theorem SOk.other {pw : List (Nat × Nat)} (hP : PerD pw) {cs : List Int} {r : Int} (h : SOk pw cs r) {u : Nat} (hu : ∀ x ∈ pw, ¬ x.1 ∣ u) :
    SOk pw (cs.map fun c => ((u : Int) * c) % ((mOf pw : Nat) : Int)) (((u : Int) * r) % ((mOf pw : Nat) : Int)) := by
  have hm := mOf_pos hP.ok
  have m0 : (0 : Int) < ((mOf pw : Nat) : Int) := by omega
  refine SOk.mk' hP (by simpa using h.l1) (by simpa using h.l3) ?_ ?_ (emodB _ m0)
  · intro c hc
    obtain ⟨c0, _, rfl⟩ := List.mem_map.mp hc
    exact emodB _ m0
  · intro x hx
    obtain ⟨c, hc, nd⟩ := h.free hx
    have hp := hP.ok.mem hx
    refine ⟨_, List.mem_map_of_mem hc, fun z => natAbs_unit hp (hu x hx) nd ?_⟩
    have pm : (x.1 : Int) ∣ ((mOf pw : Nat) : Int) := Int.natCast_dvd_natCast.mpr ((dvd_mOf hp hP.ok).mpr (List.mem_map_of_mem hx))
    have e := Int.emod_add_mul_ediv ((u : Int) * c) ((mOf pw : Nat) : Int)
    rw [← e]
    exact Int.dvd_add z (Int.dvd_trans pm (Int.dvd_mul_right _ _))
theorem on_other {m : Int} {u : Int} {cs xs : List Int} {r : Int} (h : (dotI cs xs - r) % m = 0) : (dotI (cs.map fun c => (u * c) % m) xs - (u * r) % m) % m = 0 := by
  rw [Int.sub_emod, dot_unit, Int.emod_emod, ← Int.sub_emod, ← Int.mul_sub]
  have d := Int.dvd_of_emod_eq_zero h
  exact Int.emod_eq_zero_of_dvd (Int.dvd_trans d (Int.dvd_mul_left _ _))
theorem on_self {m z : Int} : (z - z % m) % m = 0 := by
  rw [Int.sub_emod, Int.emod_emod, Int.sub_self]
  rfl
theorem shift_due {m z k : Int} : (z - (z % m + k) % m) % m = 0 ↔ k % m = 0 := by
  have e : (z - (z % m + k) % m) % m = (-k) % m := by
    rw [Int.sub_emod, Int.emod_emod, ← Int.sub_emod]
    have : z - (z % m + k) = (z - z % m) + -k := by omega
    rw [this, Int.add_emod, on_self, Int.zero_add, Int.emod_emod]
  rw [e]
  constructor
  · intro h
    have := Int.dvd_of_emod_eq_zero h
    exact Int.emod_eq_zero_of_dvd (Int.dvd_neg.mp this)
  · intro h
    exact Int.emod_eq_zero_of_dvd (Int.dvd_neg.mpr (Int.dvd_of_emod_eq_zero h))
theorem prodI_mOf : ∀ pw : List (Nat × Nat), prodI (pw.map qOf) = mOf pw
  | [] => rfl
  | x :: r => by
    rw [List.map_cons, prodI_cons, prodI_mOf r]
    rfl
end KL
namespace KL
open PySem PySem.Spec PyProof.Rows L2 RZ StX SrtO Kw KM
theorem cat_any {K : PySem.W.Frag} {H : Hp} {Q : VK} {a b : Addr} {xs ys : List V} (ha : SqT K H a xs) (hb : SqT K H b ys) (hl : xs.length + ys.length ≤ sizeLine)
    (q : ∀ (p : Addr) (H' : Hp), Same H H' → SqT K H' p (xs ++ ys) → Q (.ref p) H') : rCatA K (.ref a) (.ref b) H Q := by
  refine ⟨a, b, xs, ys, rfl, rfl, ha, hb, hl, fun e => ?_, fun _ e => ?_, fun _ _ p np => ?_⟩
  · subst e
    exact q b H (Same.refl H) hb
  · subst e
    exact q a H (Same.refl H) (by rw [List.append_nil]; exact ha)
  · exact q p _ (same_new np _) (SqT.of upd_same)
theorem cross_of {m : Nat} {a b : List Int} (h : ∀ (i j : Nat) (x y z w : Int), j < i → a[i]? = some x → a[j]? = some y → b[i]? = some z → b[j]? = some w → (m : Int) ∣ x * w - y * z) : Cross m a b := by
  intro i j x y z w hx hy hz hw
  rcases Nat.lt_trichotomy i j with c | c | c
  · have := h j i y x w z c hy hx hw hz
    rw [show x * w - y * z = -(y * z - x * w) by omega]
    exact Int.dvd_neg.mpr this
  · subst c
    rw [hx] at hy
    rw [hz] at hw
    cases hy
    cases hw
    rw [Int.sub_self]
    exact Int.dvd_zero _
  · exact h i j x y z w c hx hy hz hw
theorem some_lt {α : Type} {xs : List α} {i : Nat} (h : i < xs.length) : ∃ x, xs[i]? = some x := ⟨_, List.getElem?_eq_getElem h⟩
theorem ints_at {xs : List Int} {i : Nat} {x : Int} (h : xs[i]? = some x) : (xs.map V.int)[i]? = some (.int x) := by
  rw [List.getElem?_map, h]
  rfl
theorem eqv_lst_nil (cs : List Int) : PyData.eqv (.list (cs.map PyData.int)) (.list []) = decide (cs = []) := by
  cases cs <;> rfl
theorem shaped_lst {cs : List Int} : SeqAt.shaped (.list (cs.map PyData.int)) = true := by
  have h : ∀ cs : List Int, PyData.canLayAll0 (cs.map PyData.int) = true ∧ PyData.depthAll (cs.map PyData.int) = 0 := by
    intro cs
    induction cs with
    | nil => simp [PyData.canLayAll0, PyData.depthAll]
    | cons c r ih => simp [PyData.canLayAll0, PyData.depthAll, PyData.canLay0, PyData.depth, ih.1, ih.2]
  obtain ⟨h1, h2⟩ := h cs
  simp [SeqAt.shaped, PyData.canLay0, h1, PyData.depth, h2]
section
variable {P : Program} {w : World} {K : PySem.W.Frag} {mg : Str → Option Value} {base : Heap}
/-! ### products across -/
def sp__law_are_multiples (K : PySem.W.Frag) : Sp := fun vs H Q _ => ∃ (a b : Addr) (m : Nat) (xs ys : List Int), vs = [.int (m : Int), .ref a, .ref b] ∧ 1 ≤ m ∧ SqT K H a (xs.map V.int) ∧ SqT K H b (ys.map V.int) ∧ xs.length = ys.length ∧ xs.length ≤ 4 ∧
  (∀ x ∈ xs, Bd 2000 x) ∧ (∀ y ∈ ys, Bd 2000 y) ∧ ∀ (v : Bool) (H' : Hp), Same H H' → (v = true ↔ Cross m xs ys) → Q (.bl v) H'
theorem ok__law_are_multiples (T : Txt K mg) : FnOk P w K mg base CX0 1 T.a__law_are_multiples T.d__law_are_multiples ["_law_m", "_law_one", "_law_other"] (sp__law_are_multiples K) := by
  refine T.F__law_are_multiples.ok sc__law_are_multiples (fun vs H Q E h => ?_) (fun cdv A outer s H vs Q E hr h => ?_)
  · obtain ⟨a, b, m, xs, ys, rfl, _⟩ := h
    rfl
  obtain ⟨a, b, m, xs, ys, rfl, hm, ha, hb, hl, h4, xb, yb, q⟩ := h
  refine ⟨_, pss_cons (ps_for PassesOwn.never rfl (pi_enumT (by rfl) T.n_enumerate (pa_cons (pv 1) pa_nil)) (pg_tup (by rfl) (pgs_cons (pg_name (i := 3) sc__law_are_multiples.nd rfl (Or.inl rfl)) (pgs_cons (pg_name (i := 4) sc__law_are_multiples.nd rfl (Or.inl rfl)) pgs_nil))) (pss_one (ps_for PassesOwn.never rfl (pi_range1 (by rfl) T.n_range (pa_cons (pv 3) pa_nil)) (pg_name (i := 5) sc__law_are_multiples.nd rfl (Or.inl rfl)) (pss_one (ps_if (pt_cmpR op_ne (pe_op op_mod (pe_callTy call_int1 (by rfl) T.n_int (by decide +kernel) (pa_cons (pe_op op_sub (pe_op op_mulW (pv 4) (pe_ix ix_tup (pv 2) (pv 5) (fun _ _ => rfl))) (pe_op op_mulW (pe_ix ix_tup (pv 1) (pv 5) (fun _ _ => rfl)) (pe_ix ix_tup (pv 2) (pv 3) (fun _ _ => rfl)))) pa_nil)) (pv 0)) pe_int (nomark _)) (pss_one (ps_ret pe_bl)) pss_nil)))))
    (pss_one (ps_ret pe_bl)), ?_⟩
  have m0 : (0 : Int) < (m : Int) := by omega
  refine ⟨_, rfl, a, _, rfl, ha, for_it (walk_enumT (xs := xs.map V.int)) (fun i σ H' => ∃ x3 x4 x5 : Option V, σ = [some (.int (m : Int)), some (.ref a), some (.ref b), x3, x4, x5] ∧ Same H H' ∧
    ∀ (i' j' : Nat) (x y z w : Int), i' < i → j' < i' → xs[i']? = some x → xs[j']? = some y → ys[i']? = some z → ys[j']? = some w → (m : Int) ∣ x * w - y * z) ⟨none, none, none, rfl, Same.refl H, fun i' _ _ _ _ _ h => absurd h (Nat.not_lt_zero i')⟩ ?_ ?_ ?_⟩
  · rintro i σ H' _ ⟨_, _, _, rfl, s1, _⟩
    exact s1.sqt ha
  · rintro i v σ H1 H2 hi ⟨x3, x4, x5, rfl, s1, ok⟩ ⟨t, vx, vy, rfl, nt, rfl, ex, ey⟩
    have ex : V.int (i : Nat) = vx := Option.some.inj ex
    subst ex
    have hi : i < xs.length := by simpa using hi
    obtain ⟨x, hx⟩ := some_lt hi
    have ey : (xs.map V.int)[i]? = some vy := ey
    rw [ints_at hx] at ey
    cases ey
    have sT := same_new nt (.tup [V.int (i : Nat), V.int x])
    have s2 := s1.trans sT
    refine ⟨t, _, rfl, SqT.of upd_same, rfl, _, _, rfl, _, _, rfl, rfl, ?_⟩
    generalize upd H1 t (.tup [V.int (i : Nat), V.int x]) = H2 at s2
    refine ⟨_, rfl, i, rfl, by omega, by omega, for_range (lo := 0) (n := ((i : Nat) : Int).toNat) (fun j σ H' => ∃ x5 : Option V, σ = [some (.int (m : Int)), some (.ref a), some (.ref b), some (.int (i : Nat)), some (.int x), x5] ∧ H2 = H' ∧
      ∀ (j' : Nat) (y z w : Int), j' < j → xs[j']? = some y → ys[i]? = some z → ys[j']? = some w → (m : Int) ∣ x * w - y * z) ⟨x5, rfl, rfl, fun j' _ _ _ h => absurd h (Nat.not_lt_zero j')⟩ ?_ ?_⟩
    · rintro j σ H' hj ⟨x5, rfl, rfl, okj⟩
      have hj : j < i := by omega
      obtain ⟨y, hy⟩ := some_lt (show j < xs.length by omega)
      obtain ⟨z, hz⟩ := some_lt (show i < ys.length by omega)
      obtain ⟨w', hw⟩ := some_lt (show j < ys.length by omega)
      have e0 : (0 : Int) + (j : Nat) = (j : Nat) := by omega
      have hb2 := s2.sqt hb
      have ha2 := s2.sqt ha
      refine ⟨_, rfl, _, rfl, _, rfl, b, _, _, _, rfl, rfl, hb2, (by rw [e0]; exact atI_nat (ints_at hw)), _, _, rfl, rfl, (xb x (List.mem_of_getElem? hx)).mulOk (yb _ (List.mem_of_getElem? hw)) (by decide), ?_⟩
      refine ⟨_, rfl, _, rfl, a, _, _, _, rfl, rfl, ha2, (by rw [e0]; exact atI_nat (ints_at hy)), ?_⟩
      refine ⟨_, rfl, _, rfl, b, _, _, _, rfl, rfl, hb2, atI_nat (ints_at hz), _, _, rfl, rfl, (xb y (List.mem_of_getElem? hy)).mulOk (yb _ (List.mem_of_getElem? hz)) (by decide), ?_⟩
      refine ⟨_, _, rfl, rfl, .inl ⟨_, rfl, _, rfl, _, _, rfl, rfl, m0, rfl, _, rfl, ?_⟩⟩
      have key : (m : Int) ∣ x * w' - y * z ↔ (x * w' - y * z) % (m : Int) = 0 := Int.dvd_iff_emod_eq_zero
      by_cases d : (m : Int) ∣ x * w' - y * z
      · have d0 := key.mp d
        refine ite2 (fun cc => ?_) (fun _ => ?_)
        · simp [d0] at cc
        · refine ⟨_, rfl, rfl, fun j' y' z' w2 hj' hy' hz' hw' => ?_⟩
          by_cases e : j' = j
          · subst e
            rw [hy] at hy'
            rw [hz] at hz'
            rw [hw] at hw'
            cases hy'
            cases hz'
            cases hw'
            exact d
          · exact okj j' y' z' w2 (by omega) hy' hz' hw'
      · have d0 : ¬ (x * w' - y * z) % (m : Int) = 0 := fun e => d (key.mpr e)
        refine ite2 (fun _ => ?_) (fun cc => ?_)
        · refine q false H2 s2 ⟨fun z => Bool.noConfusion z, fun X => absurd (X i j x y z w' hx hy hz hw) d⟩
        · simp [d0] at cc
    · rintro σ H' ⟨x5, rfl, rfl, okj⟩
      refine ⟨_, _, _, rfl, s2, fun i' j' x' y z w' hi' hj' hx' hy hz hw => ?_⟩
      by_cases e : i' = i
      · subst e
        rw [hx] at hx'
        cases hx'
        exact okj j' y z w' (by omega) hy hz hw
      · exact ok i' j' x' y z w' (by omega) hj' hx' hy hz hw
  · rintro σ H' ⟨x3, x4, x5, rfl, s1, ok⟩
    rw [List.length_map] at ok
    exact q true H' s1 ⟨fun _ => cross_of fun i j x y z w hj hx hy hz hw => ok i j x y z w (List.getElem?_eq_some_iff.mp hx).1 hj hx hy hz hw, fun _ => rfl⟩
theorem cl__law_are_multiples {X : Cx} {p pos : Pos} {e : Expr} {es : List Expr} {t : TA} (T : Txt K mg) (hr : Room 1 X.A) (ha : PA X (e :: es) t) (hg : Gl X "_law_are_multiples" := by rfl)
    (he : starEach (e :: es) X.env = (false, eval e X.env) :: starEach es X.env := by rfl) (hpl : (backTo pos (starEach es X.env)).any (·.1) = false := by rfl) (hK : X.K = K := by rfl) (hmg : X.mg = mg := by rfl) :
    PE X (.Call (.Name "_law_are_multiples" p) (e :: es) [] pos) (tCall (sp__law_are_multiples K) [] E0 t) := by
  subst hK hmg
  exact pe_call (ok__law_are_multiples T) hr hg T.m__law_are_multiples T.F__law_are_multiples.kp T.b__law_are_multiples .nil pass0 ha (by decide) he hpl
/-! ### a stripe's row -/
def sp__law_row (K : PySem.W.Frag) : Sp := fun vs H Q _ => ∃ (a : Addr) (m : Nat) (cs : List Int) (r : Int), vs = [.ref a] ∧ SAt K H a m cs r ∧ cs.length ≤ 3 ∧ ∀ (p : Addr) (H' : Hp), Same H H' → SqT K H' p ((cs ++ [r]).map V.int) → Q (.ref p) H'
theorem ok__law_row (T : Txt K mg) : FnOk P w K mg base CX0 1 T.a__law_row T.d__law_row ["_law_stripe"] (sp__law_row K) := by
  refine T.F__law_row.ok sc__law_row (fun vs H Q E h => ?_) (fun cdv A outer s H vs Q E hr h => ?_)
  · obtain ⟨a, m, cs, r, rfl, _⟩ := h
    rfl
  obtain ⟨a, m, cs, r, rfl, hA, h3, q⟩ := h
  refine ⟨_, pss_one (ps_ret (pe_op (op_catAK (K := K)) (pe_ix (ix_tupK (K := K)) (pv 0) pe_int (fun _ _ => rfl)) (pe_tup (pa_cons (pe_ix (ix_tupK (K := K)) (pv 0) pe_int (fun _ _ => rfl)) pa_nil)))), ?_⟩
  obtain ⟨c, ha, hc⟩ := hA.at_
  refine ⟨_, rfl, a, _, 1, .ref c, rfl, rfl, ha, rfl, ?_⟩
  refine ⟨_, rfl, a, _, 2, .int r, rfl, rfl, ha, rfl, (by show 1 ≤ sizeLine; decide), fun t nt => ?_⟩
  have s1 := same_new nt (.tup [V.int r])
  refine cat_any (s1.sqt hc) (SqT.of upd_same) ?_ fun p H' s2 hp => ?_
  · simp only [List.length_map, List.length_cons, List.length_nil]
    exact Nat.le_trans (show cs.length + (0 + 1) ≤ 4 by omega) (by decide)
  · refine q p H' (s1.trans s2) ?_
    rw [List.map_append]
    exact hp
theorem cl__law_row {X : Cx} {p pos : Pos} {e : Expr} {es : List Expr} {t : TA} (T : Txt K mg) (hr : Room 1 X.A) (ha : PA X (e :: es) t) (hg : Gl X "_law_row" := by rfl)
    (he : starEach (e :: es) X.env = (false, eval e X.env) :: starEach es X.env := by rfl) (hpl : (backTo pos (starEach es X.env)).any (·.1) = false := by rfl) (hK : X.K = K := by rfl) (hmg : X.mg = mg := by rfl) :
    PE X (.Call (.Name "_law_row" p) (e :: es) [] pos) (tCall (sp__law_row K) [] E0 t) := by
  subst hK hmg
  exact pe_call (ok__law_row T) hr hg T.m__law_row T.F__law_row.kp T.b__law_row .nil pass0 ha (by decide) he hpl
end
end KL
namespace KL
open PySem PySem.Spec PyProof.Rows L2 RZ StX SrtO Kw KM
section
variable {P : Program} {w : World} {K : PySem.W.Frag} {mg : Str → Option Value} {base : Heap}
/-! ### a normal stripe -/
def sp__law_is_normal (K : PySem.W.Frag) : Sp := fun vs H Q _ => ∃ (pa a : Addr) (pw : List (Nat × Nat)) (cs : List Int) (r : Int), vs = [.ref pa, .int ((mOf pw : Nat) : Int), .ref a] ∧ Pw pw ∧ PwAt K H pa pw ∧ SAt K H a (mOf pw) cs r ∧ cs.length ≤ 3 ∧
  (∀ c ∈ cs, 0 ≤ c ∧ c < (mOf pw : Nat)) ∧ (0 ≤ r ∧ r < (mOf pw : Nat)) ∧ Free pw cs ∧ IsU pw cs 1 ∧ ∀ H' : Hp, Same H H' → Q (.bl true) H'
theorem ok__law_is_normal (T : Txt K mg) : FnOk P w K mg base CX0 1 T.a__law_is_normal T.d__law_is_normal ["_law_powers_here", "_law_m", "_law_stripe"] (sp__law_is_normal K) := by
  refine T.F__law_is_normal.ok sc__law_is_normal (fun vs H Q E h => ?_) (fun cdv A outer s H vs Q E hr h => ?_)
  · obtain ⟨pa, a, pw, cs, r, rfl, _⟩ := h
    rfl
  obtain ⟨pa, a, pw, cs, r, rfl, hw, hP, hA, h3, c0, r0, hf, hu, q⟩ := h
  refine ⟨_, pss_cons (ps_if (PW.pt (pw_or (pt_not (pt_val (pe_callB call_isi (by rfl) T.n_isinstance (by decide +kernel) (pa_cons (pv 2) (pa_cons (v_tuple T (by rfl)) pa_nil))))) (pw_or (pt_cmpR op_ne (pe_callB call_len_seq (by rfl) T.n_len (by decide +kernel) (pa_cons (pv 2) pa_nil)) pe_int (nomark _)) (pw_or1 (pt_not (pt_val (pe_callB call_isi (by rfl) T.n_isinstance (by decide +kernel) (pa_cons (pe_ix (ix_tupK (K := K)) (pv 2) pe_int (fun _ _ => rfl)) (pa_cons (v_tuple T (by rfl)) pa_nil))))))))) (pss_one (ps_ret pe_bl)) pss_nil)
    (Evl.pss_cut (ps_for PassesOwn.never rfl (pi_tup (pe_op (op_catAK (K := K)) (pe_tup (pa_cons (pe_ix (ix_tupK (K := K)) (pv 2) pe_int (fun _ _ => rfl)) (pa_cons (pe_ix (ix_tupK (K := K)) (pv 2) pe_int (fun _ _ => rfl)) pa_nil))) (pe_ix (ix_tupK (K := K)) (pv 2) pe_int (fun _ _ => rfl)))) (pg_name (i := 3) sc__law_is_normal.nd rfl (Or.inl rfl)) (pss_one (ps_if (PW.pt (pw_or (pt_not (pt_val (pe_callB call_isi (by rfl) T.n_isinstance (by decide +kernel) (pa_cons (pv 3) (pa_cons (v_int T (by rfl)) pa_nil))))) (pw_or (pt_val (pe_callB call_isi (by rfl) T.n_isinstance (by decide +kernel) (pa_cons (pv 3) (pa_cons (v_bool T (by rfl)) pa_nil)))) (pw_or1 (pt_cmpR op_lt (pv 3) pe_int (nomark _)))))) (pss_one (ps_ret pe_bl)) pss_nil)))
    (Evl.pss_cut (ps_if (PW.pt (pw_or (pt_cmpR op_ne (pe_ix (ix_tupK (K := K)) (pv 2) pe_int (fun _ _ => rfl)) (pv 1) (nomark _)) (pw_or1 (pt_cmpR (op_neD hr.units) (pe_lc (own := [("_law_x", 3)]) rfl sc__law_is_normal.nd (pi_tup (pe_op (op_catAK (K := K)) (pe_ix (ix_tupK (K := K)) (pv 2) pe_int (fun _ _ => rfl)) (pe_tup (pa_cons (pe_ix (ix_tupK (K := K)) (pv 2) pe_int (fun _ _ => rfl)) pa_nil)))) (blkOk_by (N := N__law_is_normal) (sc := defScope s__law_is_normal) (by decide +kernel)) (fun _ _ _ _ _ => (pg_name (i := 3) sc__law_is_normal.nd rfl (Or.inl rfl))) (fun _ _ _ _ _ => (pts_one (pt_cmpR op_ge (pv 3) (pv 1) (nomark _)))) (fun _ _ _ _ _ => (pv 3))) (pe_lst pa_nil) (nomark _))))) (pss_one (ps_ret pe_bl)) pss_nil)
    (Evl.pss_cut (ps_for PassesOwn.never rfl (pi_list (pv 0)) (pg_tup (by rfl) (pgs_cons (pg_name (i := 4) sc__law_is_normal.nd rfl (Or.inr rfl)) (pgs_cons (pg_name (i := 5) sc__law_is_normal.nd rfl (Or.inr rfl)) pgs_nil))) (pss_cons (ps_setLc (i := 6) (own := [("_law_x", 3)]) rfl sc__law_is_normal.nd rfl rfl (sw_true rfl rfl rfl (by decide +kernel)) (pi_tup (pe_ix (ix_tupK (K := K)) (pv 2) pe_int (fun _ _ => rfl))) (blkOk_by (N := N__law_is_normal) (sc := defScope s__law_is_normal) (by decide +kernel)) (fun _ _ _ _ _ => (pg_name (i := 3) sc__law_is_normal.nd rfl (Or.inl rfl))) (fun _ _ _ _ _ => (pts_one (pt_cmpR op_gt (pe_op op_mod (pe_callTy call_int1 (by rfl) T.n_int (by decide +kernel) (pa_cons (pv 3) pa_nil)) (pv 4)) pe_int (nomark _)))) (fun _ _ _ _ _ => (pe_op op_mod (pe_callTy call_int1 (by rfl) T.n_int (by decide +kernel) (pa_cons (pv 3) pa_nil)) (pv 5))))
        (pss_one (ps_if (PW.pt (pw_or (pt_cmpR (op_eqD hr.units) (pv 6) (pe_lst pa_nil) (nomark _)) (pw_or1 (pt_cmpR op_ne (pe_ix (ix_listK (K := K)) (pv 6) pe_int (fun _ _ => rfl)) pe_int (nomark _))))) (pss_one (ps_ret pe_bl)) pss_nil))))
    (pss_one (ps_ret pe_bl))))), ?_⟩
  obtain ⟨c, ha, hc⟩ := hA.at_
  have hm := mOf_pos hw
  refine ⟨_, rfl, _, _, _, _, true, rfl, ClsV.ty _, ty_tup ha, kit_ty (by decide +kernel), true, rfl, iteF ?_⟩
  refine ⟨_, rfl, a, _, rfl, .inr ha, rfl, _, rfl, iteF ?_⟩
  refine ⟨_, rfl, a, _, 1, .ref c, rfl, rfl, ha, rfl, _, _, _, _, true, rfl, ClsV.ty _, ty_tup hc, kit_ty (by decide +kernel), true, rfl, iteF ?_⟩
  have clen : (cs.map V.int).length = cs.length := List.length_map _
  have room : ∀ n, n ≤ 10 → n ≤ sizeLine := fun n h => Nat.le_trans h (by decide)
  refine ⟨fun σ H' => ∃ x3 : Option V, σ = [some (.ref pa), some (.int ((mOf pw : Nat) : Int)), some (.ref a), x3, none, none, none] ∧ Same H H', ?_, ?_⟩
  · refine ⟨_, rfl, a, _, 0, .int ((mOf pw : Nat) : Int), rfl, rfl, ha, rfl, _, rfl, a, _, 2, .int r, rfl, rfl, ha, rfl, (by show 2 ≤ sizeLine; decide), fun t nt => ?_⟩
    have s1 := same_new nt (.tup [V.int ((mOf pw : Nat) : Int), V.int r])
    refine ⟨_, rfl, a, _, 1, .ref c, rfl, rfl, s1.sqt ha, rfl, ?_⟩
    refine cat_any (SqT.of upd_same) (s1.sqt hc) (by simp only [List.length_map, List.length_cons, List.length_nil]; exact room _ (by omega)) fun p H2 s2 hp => ?_
    have s12 := s1.trans s2
    have hp' : SqT K H2 p ((((mOf pw : Nat) : Int) :: r :: cs).map V.int) := hp
    refine ⟨p, rfl, ⟨_, hp'⟩, for_tup (xs := (((mOf pw : Nat) : Int) :: r :: cs).map V.int) (fun i σ H' => ∃ x3 : Option V, σ = [some (.ref pa), some (.int ((mOf pw : Nat) : Int)), some (.ref a), x3, none, none, none] ∧ H2 = H') ⟨none, rfl, rfl⟩ ?_ ?_ ?_⟩
    · rintro i σ H' _ ⟨x3, rfl, rfl⟩
      exact hp'
    · rintro i v σ H' hv ⟨x3, rfl, rfl⟩
      obtain ⟨z, hz, rfl⟩ := List.mem_map.mp (List.mem_of_getElem? hv)
      have z0 : 0 ≤ z := by
        rcases List.mem_cons.mp hz with rfl | hz
        · omega
        · rcases List.mem_cons.mp hz with rfl | hz
          · exact r0.1
          · exact (c0 z hz).1
      refine ⟨_, rfl, _, _, _, _, _, rfl, ClsV.ty _, .base (.int z), kit_ty (r := true) (by decide +kernel), true, rfl, iteF ?_⟩
      refine ⟨_, rfl, _, _, _, _, _, rfl, ClsV.ty _, .base (.int z), kit_ty (r := false) (by decide +kernel), false, rfl, iteF ?_⟩
      refine ⟨_, rfl, _, _, rfl, rfl, _, rfl, ite2 (fun cc => ?_) (fun _ => ?_)⟩
      · have := of_decide_eq_true cc
        omega
      · exact ⟨_, rfl, rfl⟩
    · rintro σ H' ⟨x3, rfl, rfl⟩
      exact ⟨x3, rfl, s12⟩
  rintro σ H1 ⟨x3, rfl, s1⟩
  refine ⟨fun σ H' => σ = [some (.ref pa), some (.int ((mOf pw : Nat) : Int)), some (.ref a), x3, none, none, none] ∧ Same H H', ?_, ?_⟩
  · have ha1 := s1.sqt ha
    have hc1 := s1.sqt hc
    refine ⟨_, rfl, a, _, 0, .int ((mOf pw : Nat) : Int), rfl, rfl, ha1, rfl, _, rfl, rfl, _, rfl, ite2 (fun cc => ?_) (fun _ => ?_)⟩
    · simp at cc
    refine ⟨_, rfl, a, _, 1, .ref c, rfl, rfl, ha1, rfl, _, rfl, a, _, 2, .int r, rfl, rfl, ha1, rfl, (by show 1 ≤ sizeLine; decide), fun t nt => ?_⟩
    have s2 := same_new nt (.tup [V.int r])
    refine cat_any (s2.sqt hc1) (SqT.of upd_same) (by simp only [List.length_map, List.length_cons, List.length_nil]; exact room _ (by omega)) fun p H2 s3 hp => ?_
    have hp' : SqT K H2 p ((cs ++ [r]).map V.int) := by
      rw [List.map_append]
      exact hp
    refine ⟨p, rfl, ⟨_, hp'⟩, fun D nD => lc_tup (xs := (cs ++ [r]).map V.int) (Lc H2 D fun _ => []) (lc_start nD rfl) (fun _ _ _ h => h.1.sqt hp') (fun i v H3 hv h => ?_) (fun H3 h => ?_)⟩
    · obtain ⟨z, hz, rfl⟩ := List.mem_map.mp (List.mem_of_getElem? hv)
      have z1 : z < ((mOf pw : Nat) : Int) := by
        rcases List.mem_append.mp hz with k | k
        · exact (c0 z k).2
        · rw [List.mem_singleton.mp k]
          exact r0.2
      refine ⟨rfl, _, rfl, _, rfl, _, _, rfl, rfl, _, rfl, ite2 (fun cc => ?_) (fun _ => lc_skip h.1 h.2 rfl)⟩
      have := of_decide_eq_true cc
      omega
    · refine ⟨(by show 0 ≤ sizeLine; exact Nat.zero_le _), fun q1 nq => ?_⟩
      have sq := same_new nq (.lst [])
      have e0 : SqL K H3 D (([] : List Int).map V.int) := SqL.of h.2
      refine ⟨.list (([] : List Int).map PyData.int), .list [], .lst (sq.seq e0) .nil, .lst (SqL.of upd_same) .nil, shaped_lst, shaped_lst (cs := []), ?_⟩
      refine ⟨false, by rw [eqv_lst_nil]; rfl, iteF ?_⟩
      exact ⟨rfl, (((s1.trans s2).trans s3).trans h.1).trans sq⟩
  rintro σ H4 ⟨rfl, s4⟩
  -- the first numbers by each prime
  refine ⟨fun σ H' => Same H H', ?_, fun σ H' s => q H' s⟩
  obtain ⟨as, has, hl, hi⟩ := hP.ex
  refine ⟨_, rfl, pa, rfl, ⟨_, s4.seq has⟩, for_list (xs := as.map V.ref) (fun i σ H' => ∃ x4 x5 x6 : Option V, σ = [some (.ref pa), some (.int ((mOf pw : Nat) : Int)), some (.ref a), x3, x4, x5, x6] ∧ Same H H') ⟨none, none, none, rfl, s4⟩ ?_ ?_ ?_⟩
  · rintro i σ H' _ ⟨_, _, _, rfl, s⟩
    exact s.seq has
  · rintro i v σ H5 hv ⟨x4, x5, x6, rfl, s5⟩
    obtain ⟨t, x, ht, hxp, rfl, hilt⟩ := pairs_at hl hv
    have hmem := List.mem_of_getElem? hxp
    have p2 := PN_lt _ (hw.mem hmem)
    have qx := qOf_le hw hmem
    have p0 : (0 : Int) < (x.1 : Int) := by omega
    have q0 : (0 : Int) < ((qOf x : Nat) : Int) := by omega
    obtain ⟨k, b, ib⟩ := fst_ex (hf x hmem)
    have kl : k < cs.length := (List.getElem?_eq_some_iff.mp ib.at_).1
    refine ⟨t, _, rfl, s5.sqt (hi i t x ht hxp), rfl, _, _, rfl, _, _, rfl, rfl, ?_⟩
    have one : b % ((qOf x : Nat) : Int) = 1 := by
      have d := hu x hmem k b ib
      rw [Int.one_mul] at d
      have q2 : 2 ≤ qOf x := by
        have := hw.pos x hmem
        have := Nat.pow_le_pow_right (n := x.1) (by omega) this
        rw [Nat.pow_one] at this
        exact Nat.le_trans p2.1 this
      rw [emod_of_sub d]
      exact Int.emod_eq_of_lt (by decide) (by omega)
    refine ⟨_, rfl, a, _, 1, .ref c, rfl, rfl, s5.sqt ha, rfl, c, rfl, ⟨_, s5.sqt hc⟩, fun D nD => lc_tup (xs := cs.map V.int) (fun j H' => Same H5 H' ∧ ∃ L : List Int, L.length ≤ j ∧ H' D = some (.lst (L.map V.int)) ∧ (j ≤ k → L = []) ∧ (k < j → L[0]? = some 1)) ⟨same_new nD _, [], Nat.le_refl _, upd_same, fun _ => rfl, fun z => absurd z (Nat.not_lt_zero _)⟩ (fun _ _ _ h => h.1.sqt (s5.sqt hc)) (fun j v H6 hv h => ?_) (fun H6 h => ?_)⟩
    · obtain ⟨s6, L, lL, eL, l0, l1⟩ := h
      rw [List.getElem?_map] at hv
      obtain ⟨z, hz, rfl⟩ := Option.map_eq_some_iff.mp hv
      have iff : (x.1 : Int) ∣ z ↔ z % (x.1 : Int) = 0 := Int.dvd_iff_emod_eq_zero
      have zp := emodB z p0
      refine ⟨rfl, _, rfl, .inl ⟨_, rfl, _, rfl, _, _, rfl, rfl, p0, _, _, rfl, rfl, _, rfl, ?_⟩⟩
      by_cases d : (x.1 : Int) ∣ z
      · have d0 := iff.mp d
        have ne : j ≠ k := by
          rintro rfl
          rw [ib.at_] at hz
          cases hz
          exact ib.nd d
        refine ite2 (fun cc => ?_) (fun _ => ?_)
        · have cc := of_decide_eq_true cc
          omega
        · exact ⟨s6, L, by omega, eL, fun z => l0 (by omega), fun z => l1 (by omega)⟩
      · have d0 : ¬ z % (x.1 : Int) = 0 := fun e => d (iff.mpr e)
        have kj : k ≤ j := by
          rcases Nat.lt_or_ge j k with lt | ge
          · exact absurd (ib.ahead j z lt hz) d
          · exact ge
        have jl : j < cs.length := (List.getElem?_eq_some_iff.mp hz).1
        refine ite2 (fun _ => ?_) (fun cc => ?_)
        · refine ⟨_, rfl, .inl ⟨_, rfl, _, rfl, _, _, rfl, rfl, q0, _, eL, ?_, same_upd2 s6 nD, L ++ [z % ((qOf x : Nat) : Int)], by simp; omega, ?_, fun z => by omega, fun _ => ?_⟩⟩
          · rw [List.length_map]
            exact Nat.lt_of_lt_of_le (show L.length < 4 by omega) (by decide)
          · rw [upd_same, List.map_append]
            rfl
          · rcases Nat.lt_or_ge k j with lt | ge
            · have := l1 lt
              rw [List.getElem?_append_left (by have := (List.getElem?_eq_some_iff.mp this).1; exact this)]
              exact this
            · obtain rfl : j = k := by omega
              rw [l0 (Nat.le_refl _)]
              rw [ib.at_] at hz
              cases hz
              rw [one]
              rfl
        · have cc : ¬ z % (x.1 : Int) > 0 := fun z => cc (decide_eq_true z)
          omega
    · obtain ⟨s6, L, lL, eL, _, l1⟩ := h
      have l1 := l1 (by rw [List.length_map]; exact kl)
      have ne : L ≠ [] := by
        rintro rfl
        cases l1
      refine ⟨_, rfl, (by show 0 ≤ sizeLine; exact Nat.zero_le _), fun q1 nq => ?_⟩
      have sq := same_new nq (.lst [])
      refine ⟨.list (L.map PyData.int), .list [], .lst (SqL.of (sq _ _ eL)) (dpAll_ints L), .lst (SqL.of upd_same) .nil, shaped_lst, shaped_lst (cs := []), _, rfl, ?_⟩
      rw [eqv_lst_nil, decide_eq_false ne]
      refine iteF ?_
      refine ⟨_, rfl, D, _, 0, .int 1, rfl, rfl, SqL.of (sq _ _ eL), atI_nat (j := 0) (ints_at l1), rfl, _, rfl, ite2 (fun cc => ?_) (fun _ => ?_)⟩
      · simp at cc
      · exact ⟨_, _, _, rfl, (s5.trans s6).trans sq⟩
  · rintro σ H' ⟨_, _, _, rfl, s⟩
    exact s
theorem cl__law_is_normal {X : Cx} {p pos : Pos} {e : Expr} {es : List Expr} {t : TA} (T : Txt K mg) (hr : Room 1 X.A) (ha : PA X (e :: es) t) (hg : Gl X "_law_is_normal" := by rfl)
    (he : starEach (e :: es) X.env = (false, eval e X.env) :: starEach es X.env := by rfl) (hpl : (backTo pos (starEach es X.env)).any (·.1) = false := by rfl) (hK : X.K = K := by rfl) (hmg : X.mg = mg := by rfl) :
    PE X (.Call (.Name "_law_is_normal" p) (e :: es) [] pos) (tCall (sp__law_is_normal K) [] E0 t) := by
  subst hK hmg
  exact pe_call (ok__law_is_normal T) hr hg T.m__law_is_normal T.F__law_is_normal.kp T.b__law_is_normal .nil pass0 ha (by decide) he hpl
end
end KL
namespace KL
open PySem PySem.Spec PyProof.Rows L2 RZ StX SrtO Kw KM
theorem max_pow {p : Nat} (hp : 2 ≤ p) : ∀ n : Nat, 1 ≤ n → ∃ k n', n = p ^ k * n' ∧ ¬ p ∣ n' ∧ 1 ≤ n' := by
  intro n
  induction n using Nat.strongRecOn with
  | ind n ih =>
    intro hn
    by_cases d : p ∣ n
    · obtain ⟨m, rfl⟩ := d
      have m1 : 1 ≤ m := by
        rcases Nat.eq_zero_or_pos m with z | z
        · subst z
          omega
        · exact z
      have lt : m < p * m := by
        have : 1 * m < p * m := Nat.mul_lt_mul_of_pos_right (by omega) m1
        omega
      obtain ⟨k, n', e, nd, n1⟩ := ih m lt m1
      exact ⟨k + 1, n', by rw [e, Nat.pow_succ, Nat.mul_comm (p ^ k) p, Nat.mul_assoc], nd, n1⟩
    · exact ⟨0, n, by simp, d, hn⟩
theorem Pw.cop_tail {x : Nat × Nat} {r : List (Nat × Nat)} (hw : Pw (x :: r)) : Nat.Coprime x.1 (mOf r) := by
  have hx := hw.mem List.mem_cons_self
  exact cop_of hx fun d => (List.nodup_cons.mp hw.nodup).1 ((dvd_mOf hx hw.tail).mp d)
/-- what divides a period is a period of some of its primes -/
theorem dvd_pw : ∀ {pw : List (Nat × Nat)}, Pw pw → ∀ n : Nat, n ∣ mOf pw → ∃ pv : List (Nat × Nat), Pw pv ∧ mOf pv = n ∧ (pv.map (·.1)).Sublist (pw.map (·.1)) ∧ prodP pv ≤ prodP pw ∧ 1 ≤ prodP pw
  | [], hw, n, h => ⟨[], hw, (Nat.dvd_one.mp h).symm, List.Sublist.refl _, Nat.le_refl _, Nat.le_refl _⟩
  | x :: r, hw, n, h => by
    have hx := hw.mem List.mem_cons_self
    have x2 := PN_lt _ hx
    have hm := mOf_pos hw
    have n1 : 1 ≤ n := Nat.pos_of_dvd_of_pos h (by omega)
    obtain ⟨k, n', e, nd, n1'⟩ := max_pow x2.1 n n1
    have h' : n ∣ x.1 ^ x.2 * mOf r := h
    have d1 : n' ∣ mOf r := by
      have c : Nat.Coprime n' (x.1 ^ x.2) := (cop_pow (cop_of hx nd) _).symm
      refine c.dvd_of_dvd_mul_left (Nat.dvd_trans ?_ h')
      rw [e]
      exact Nat.dvd_mul_left _ _
    obtain ⟨pv, p1, p2, p3, p4, p5⟩ := dvd_pw hw.tail n' d1
    have pr : 1 ≤ prodP (x :: r) := Nat.mul_pos (show 0 < x.1 by omega) p5
    have le : prodP pv ≤ prodP (x :: r) := Nat.le_trans p4 (Nat.le_mul_of_pos_left _ (by omega))
    rcases Nat.eq_zero_or_pos k with z | kp
    · subst z
      refine ⟨pv, p1, by rw [p2, e]; simp, p3.cons _, le, pr⟩
    · refine ⟨(x.1, k) :: pv, ⟨?_, ?_⟩, ?_, p3.cons_cons _, Nat.mul_le_mul_left _ p4, pr⟩
      · have := p3.cons_cons x.1
        exact this.trans hw.sub
      · intro y hy
        rcases List.mem_cons.mp hy with rfl | hy
        · exact kp
        · exact p1.pos y hy
      · show x.1 ^ k * mOf pv = n
        rw [p2, e]
theorem mem_of_sub {pw pv : List (Nat × Nat)} (h : (pv.map (·.1)).Sublist (pw.map (·.1))) {y : Nat × Nat} (hy : y ∈ pv) : ∃ x ∈ pw, x.1 = y.1 := by
  have := h.subset (List.mem_map_of_mem hy)
  obtain ⟨x, hx, e⟩ := List.mem_map.mp this
  exact ⟨x, hx, e⟩
theorem PerD.dvd {pw : List (Nat × Nat)} (h : PerD pw) {n : Nat} (d : n ∣ mOf pw) : ∃ pv, PerD pv ∧ mOf pv = n ∧ (pv.map (·.1)).Sublist (pw.map (·.1)) := by
  obtain ⟨pv, p1, p2, p3, p4, _⟩ := dvd_pw h.ok n d
  refine ⟨pv, ⟨p1, Nat.le_trans p4 h.few, ?_⟩, p2, p3⟩
  rw [p2]
  exact Nat.lt_of_le_of_lt (Nat.le_of_dvd (mOf_pos h.ok) d) h.lt
theorem Per.dvd {pw : List (Nat × Nat)} (h : Per pw) {n : Nat} (d : n ∣ mOf pw) : ∃ pv, Per pv ∧ mOf pv = n ∧ (pv.map (·.1)).Sublist (pw.map (·.1)) := by
  obtain ⟨pv, p1, p2, p3, p4, _⟩ := dvd_pw h.ok n d
  refine ⟨pv, ⟨p1, Nat.le_trans p4 h.few, ?_⟩, p2, p3⟩
  rw [p2]
  exact Nat.lt_of_le_of_lt (Nat.le_of_dvd (mOf_pos h.ok) d) h.bd
theorem free_mod {pw pv : List (Nat × Nat)} (hv : Pw pv) (hs : (pv.map (·.1)).Sublist (pw.map (·.1))) {cs : List Int} (f : Free pw cs) : Free pv (cs.map fun c => c % ((mOf pv : Nat) : Int)) := by
  intro y hy
  obtain ⟨x, hx, e⟩ := mem_of_sub hs hy
  obtain ⟨c, hc, nd⟩ := f x hx
  rw [e] at nd
  exact ⟨_, List.mem_map_of_mem hc, fun z => nd ((p_emod hv hy c).mp z)⟩
/-- times a unit: the normal form stays -/
theorem nf_mul {pw : List (Nat × Nat)} (h : Pw pw) {cs : List Int} (f : Free pw cs) (r : Int) {u : Int} (nu : ∀ x ∈ pw, ¬ (x.1 : Int) ∣ u) :
    nfC pw (mulM (mOf pw) u cs) = nfC pw cs ∧ nfR pw (mulM (mOf pw) u cs) ((u * r) % ((mOf pw : Nat) : Int)) = nfR pw cs r := by
  have g := free_mul h nu f
  refine (nf_iff h (by simp [mulM]) g f).mpr ?_
  rw [← mulM_append]
  intro i j x y z w hx hy hz hw
  rw [mulM_at hz] at hx
  rw [mulM_at hw] at hy
  cases hx
  cases hy
  have e1 := Int.emod_add_mul_ediv (u * z) ((mOf pw : Nat) : Int)
  have e2 := Int.emod_add_mul_ediv (u * w) ((mOf pw : Nat) : Int)
  exact ⟨(u * w / ((mOf pw : Nat) : Int)) * z - (u * z / ((mOf pw : Nat) : Int)) * w, by grind⟩
theorem mulM_len (m : Nat) (u : Int) (cs : List Int) : (mulM m u cs).length = cs.length := List.length_map _
theorem SOk.mul {pw : List (Nat × Nat)} {cs : List Int} {r : Int} (h : SOk pw cs r) {u : Int} (nu : ∀ x ∈ pw, ¬ (x.1 : Int) ∣ u) : SOk pw (mulM (mOf pw) u cs) ((u * r) % ((mOf pw : Nat) : Int)) := by
  have hm := mOf_pos h.per.ok
  exact SOk.mk2 h.per (by rw [mulM_len]; exact h.l1) (by rw [mulM_len]; exact h.l3) (fun c hc => mem_mulM hm hc) (free_mul h.per.ok nu h.fr) (emodB _ (by omega))
/-- -1, by the period, is a unit -/
theorem unit_less {pw : List (Nat × Nat)} (h : Pw pw) : ∀ x ∈ pw, ¬ (x.1 : Int) ∣ ((mOf pw : Nat) : Int) - 1 := by
  intro x hx d
  have pm : (x.1 : Int) ∣ ((mOf pw : Nat) : Int) := p_dvd h hx (Int.natCast_dvd_natCast.mpr (part_dvd_mOf h hx))
  have := Int.dvd_sub pm d
  rw [show ((mOf pw : Nat) : Int) - (((mOf pw : Nat) : Int) - 1) = 1 by omega] at this
  exact p_one (h.mem hx) this
end KL
namespace KL
open PySem PySem.Spec PyProof.Rows L2 RZ StX SrtO Kw KM
section
variable {P : Program} {w : World} {K : PySem.W.Frag} {mg : Str → Option Value} {base : Heap}
/-! ### the numbers times an integer -/
def sp__law_by (K : PySem.W.Frag) : Sp := fun vs H Q _ => ∃ (a : Addr) (m : Nat) (cs : List Int) (r u : Int), vs = [.ref a, .int u] ∧ SAt K H a m cs r ∧ 1 ≤ m ∧ cs.length ≤ 3 ∧ (∀ c ∈ cs, Bd 2000 c) ∧ Bd 2000 r ∧ Bd 2000 u ∧
  ∀ (p : Addr) (H' : Hp), Same H H' → SAt K H' p m (mulM m u cs) ((u * r) % (m : Int)) → Q (.ref p) H'
theorem ok__law_by (T : Txt K mg) : FnOk P w K mg base CX0 1 T.a__law_by T.d__law_by ["_law_stripe", "_law_u"] (sp__law_by K) := by
  refine T.F__law_by.ok sc__law_by (fun vs H Q E h => ?_) (fun cdv A outer s H vs Q E hr h => ?_)
  · obtain ⟨a, m, cs, r, u, rfl, _⟩ := h
    rfl
  obtain ⟨a, m, cs, r, u, rfl, hA, hm, h3, cb, rb, ub, q⟩ := h
  refine ⟨_, pss_cons (ps_asg (pv 0) (pg_tup (by rfl) (pgs_cons (pg_name (i := 2) sc__law_by.nd rfl (Or.inr rfl)) (pgs_cons (pg_name (i := 3) sc__law_by.nd rfl (Or.inl rfl)) (pgs_cons (pg_name (i := 4) sc__law_by.nd rfl (Or.inl rfl)) pgs_nil)))))
    (pss_one (ps_ret (pe_tup (pa_cons (pv 2) (pa_cons (pe_callTy call_tuple_of (by rfl) T.n_tuple (by decide +kernel) (pa_cons (pe_lc (own := [("_law_a", 5)]) rfl sc__law_by.nd (pi_tup (pv 3)) (blkOk_by (N := N__law_by) (sc := defScope s__law_by) (by decide +kernel)) (fun _ _ _ _ _ => (pg_name (i := 5) sc__law_by.nd rfl (Or.inl rfl))) (fun _ _ _ _ _ => pts_nil) (fun _ _ _ _ _ => (pe_op op_mod (pe_callTy call_int1 (by rfl) T.n_int (by decide +kernel) (pa_cons (pe_op op_mulW (pv 1) (pv 5)) pa_nil)) (pv 2)))) pa_nil)) (pa_cons (pe_op op_mod (pe_callTy call_int1 (by rfl) T.n_int (by decide +kernel) (pa_cons (pe_op op_mulW (pv 1) (pv 4)) pa_nil)) (pv 2)) pa_nil)))))), ?_⟩
  obtain ⟨c, ha, hc⟩ := hA.at_
  have m0 : (0 : Int) < (m : Int) := by omega
  refine ⟨_, rfl, a, _, rfl, ha, rfl, _, _, rfl, _, _, rfl, _, _, rfl, rfl, ?_⟩
  refine ⟨_, rfl, _, rfl, c, rfl, ⟨_, hc⟩, fun D nD => lc_tup (xs := cs.map V.int) (Lc H D fun i => ((mulM m u cs).take i).map V.int) (lc_start nD rfl) (fun _ _ _ h => h.1.sqt hc) (fun i v H1 hv h => ?_) (fun H1 h => ?_)⟩
  · rw [List.getElem?_map] at hv
    obtain ⟨b, hb, rfl⟩ := Option.map_eq_some_iff.mp hv
    refine ⟨rfl, yes_ (iteT ?_)⟩
    refine ⟨_, rfl, _, rfl, _, _, rfl, rfl, ub.mulOk (cb b (List.mem_of_getElem? hb)) (by decide), .inl ⟨_, rfl, _, rfl, _, _, rfl, rfl, m0, lc_leaf nD h.1 h.2 (by simp only [List.length_map, List.length_take, mulM_len]; omega) ?_⟩⟩
    rw [List.take_add_one, mulM_at hb, List.map_append]
    rfl
  · obtain ⟨s1, e1⟩ := lc_done h (ys := (mulM m u cs).map V.int) (by
      show ((mulM m u cs).take (cs.map V.int).length).map V.int = _
      rw [List.take_of_length_le (by simp [mulM_len])])
    refine ⟨D, _, rfl, .inl ⟨SqL.of e1, fun l nl => ?_⟩⟩
    have s2 := s1.trans (same_new nl (.tup ((mulM m u cs).map V.int)))
    refine ⟨_, rfl, _, rfl, _, _, rfl, rfl, ub.mulOk rb (by decide), .inl ⟨_, rfl, _, rfl, _, _, rfl, rfl, m0, (by show 3 ≤ sizeLine; decide), fun t nt => ?_⟩⟩
    have s3 := s2.trans (same_new nt (.tup [V.int (m : Int), V.ref l, V.int ((u * r) % (m : Int))]))
    exact q t _ s3 ⟨l, SqT.of upd_same, (same_new nt _).sqt (SqT.of upd_same)⟩
theorem cl__law_by {X : Cx} {p pos : Pos} {e : Expr} {es : List Expr} {t : TA} (T : Txt K mg) (hr : Room 1 X.A) (ha : PA X (e :: es) t) (hg : Gl X "_law_by" := by rfl)
    (he : starEach (e :: es) X.env = (false, eval e X.env) :: starEach es X.env := by rfl) (hpl : (backTo pos (starEach es X.env)).any (·.1) = false := by rfl) (hK : X.K = K := by rfl) (hmg : X.mg = mg := by rfl) :
    PE X (.Call (.Name "_law_by" p) (e :: es) [] pos) (tCall (sp__law_by K) [] E0 t) := by
  subst hK hmg
  exact pe_call (ok__law_by T) hr hg T.m__law_by T.F__law_by.kp T.b__law_by .nil pass0 ha (by decide) he hpl
/-! ### made normal -/
def sp__law_is_made_normal (K : PySem.W.Frag) : Sp := fun vs H Q _ => ∃ (pa a : Addr) (pw : List (Nat × Nat)) (cs : List Int) (r : Int), vs = [.ref pa, .ref a] ∧ mOf pw < 10 ^ 40 ∧ PwAt K H pa pw ∧ SAt K H a (mOf pw) cs r ∧ SOk pw cs r ∧ ∀ H' : Hp, Same H H' → Q (.bl true) H'
theorem ok__law_is_made_normal (T : Txt K mg) : GFn P w K mg base 6 T.a__law_is_made_normal T.d__law_is_made_normal ["_law_powers_here", "_law_stripe"] (sp__law_is_made_normal K) := by
  refine gfn_of T.F__law_is_made_normal sc__law_is_made_normal (fun vs H Q E h => ?_) (fun cdv A outer s H vs Q E hq hr h => ?_)
  · obtain ⟨pa, a, pw, cs, r, rfl, _⟩ := h
    rfl
  obtain ⟨pa, a, pw, cs, r, rfl, hlt, hP, hA, hO, q⟩ := h
  refine ⟨_, pss_cons (ps_par (i := 2) (j := 3) (by rfl) sc__law_is_made_normal.nd rfl rfl (by decide) rfl rfl (pa_cons (pe_ix (ix_tupK (K := K)) (pv 1) pe_int (fun _ _ => rfl)) (pa_cons (cl_normal_stripe T (hr.mono (by decide)) (pa_cons (pv 1) pa_nil)) pa_nil)) (by rfl))
    (pss_cons (ps_if (PW.pt (pw_or (pt_not (pt_val (cl__law_is_normal T (hr.mono (by decide)) (pa_cons (pv 0) (pa_cons (pv 2) (pa_cons (pv 3) pa_nil)))))) (pw_or1 (pt_cmpR op_ne (pe_callB call_len_seq (by rfl) T.n_len (by decide +kernel) (pa_cons (pe_ix (ix_tupK (K := K)) (pv 3) pe_int (fun _ _ => rfl)) pa_nil)) (pe_callB call_len_seq (by rfl) T.n_len (by decide +kernel) (pa_cons (pe_ix (ix_tupK (K := K)) (pv 1) pe_int (fun _ _ => rfl)) pa_nil)) (nomark _))))) (pss_one (ps_ret pe_bl)) pss_nil)
    (pss_cons (ps_if (PW.pt (pw_or (pt_not (pt_val (cl__law_are_multiples T (hr.mono (by decide)) (pa_cons (pv 2) (pa_cons (cl__law_row T (hr.mono (by decide)) (pa_cons (pv 1) pa_nil)) (pa_cons (cl__law_row T (hr.mono (by decide)) (pa_cons (pv 3) pa_nil)) pa_nil)))))) (pw_or1 (pt_cmpR op_notBl (cl_is_stripe T (hr.mono (by decide)) (pa_cons (pv 3) pa_nil)) pe_bl (nomark _))))) (pss_one (ps_ret pe_bl)) pss_nil)
    (pss_one (ps_ret (pe_cmpR op_eq (pe_callB (call_reprD hq hr.units) (by rfl) T.n_repr (by decide +kernel) (pa_cons (pe_tup (pa_cons (cl_normal_stripe T (hr.mono (by decide)) (pa_cons (pv 3) pa_nil)) (pa_cons (pe_callN (gfn (ok_normal_stripe T)) hq (hr.mono (by decide)) (by rfl) T.m_normal_stripe T.F_normal_stripe.kp T.kb_normal_stripe_0_stripe (pk_cons (pv 1) pk_nil)) pa_nil))) pa_nil)) (pe_callB (call_reprD hq hr.units) (by rfl) T.n_repr (by decide +kernel) (pa_cons (pe_tup (pa_cons (pv 3) (pa_cons (pv 3) pa_nil))) pa_nil)) (nomark _)))))), ?_⟩
  have hw := hO.per.ok
  have hm := mOf_pos hw
  have l1 := hO.l1
  have l3 := hO.l3
  obtain ⟨c, ha, hc⟩ := hA.at_
  have hN := hO.nf
  obtain ⟨i1, i2⟩ := nf_idem hw hO.fr r
  have X := (nf_iff (r := r) (s := nfR pw cs r) hw (nfC_len pw cs).symm hO.fr (nf_free hw hO.fr)).mp ⟨i1.symm, i2.symm⟩
  have hone := nf_one hw hO.fr
  have nlen := nfC_len pw cs
  have b19 : mOf pw < 2 ^ 1900 := Nat.lt_trans hlt (by decide)
  refine ⟨_, rfl, a, _, 0, .int ((mOf pw : Nat) : Int), rfl, rfl, ha, rfl, _, rfl, a, pw, cs, r, rfl, hA, hO, fun p H1 s1 np hp => ⟨_, _, rfl, ?_⟩⟩
  generalize hnc : nfC pw cs = ns at *
  generalize hnr : nfR pw cs r = nr at *
  refine ⟨_, rfl, _, rfl, _, rfl, pa, p, pw, ns, nr, rfl, hw, hP.same s1, hp, by omega, hN.c0, hN.r0, hN.fr, hone, fun H2 s2 => ⟨true, rfl, iteF ?_⟩⟩
  have hp2 := hp.mono s2
  have hA2 := hA.mono (s1.trans s2)
  obtain ⟨cn, hn1, hn2⟩ := hp2.at_
  obtain ⟨c2, hb1, hb2⟩ := hA2.at_
  refine ⟨_, rfl, p, _, 1, .ref cn, rfl, rfl, hn1, rfl, cn, _, rfl, .inr hn2, _, rfl, a, _, 1, .ref c2, rfl, rfl, hb1, rfl, c2, _, rfl, .inr hb2, rfl, _, rfl, ite2 (fun cc => ?_) (fun _ => ?_)⟩
  · simp [nlen] at cc
  refine ⟨_, rfl, _, rfl, a, _, cs, r, rfl, hA2, l3, fun p1 H3 s3 h1 => ?_⟩
  refine ⟨_, rfl, p, _, ns, nr, rfl, hp2.mono s3, by omega, fun p2 H4 s4 h2 => ?_⟩
  refine ⟨p1, p2, mOf pw, _, _, rfl, hm, s4.sqt h1, h2, by simp [nlen], by simp; omega, ?_, ?_, fun v H5 s5 iff => ?_⟩
  · intro x hx
    rcases List.mem_append.mp hx with k | k
    · exact hO.bd x k
    · rw [List.mem_singleton.mp k]
      exact hO.rbd
  · intro x hx
    rcases List.mem_append.mp hx with k | k
    · exact hN.bd x k
    · rw [List.mem_singleton.mp k]
      exact hN.rbd
  obtain rfl : v = true := iff.mpr X
  refine ⟨true, rfl, iteF ?_⟩
  have hp5 := ((hp2.mono s3).mono s4).mono s5
  have s25 := (s3.trans s4).trans s5
  refine ⟨_, rfl, p, pw, ns, nr, rfl, hp5, hN, fun H6 s6 => ?_⟩
  refine ⟨true, true, rfl, rfl, false, rfl, iteF ?_⟩
  -- the texts
  have hp6 := hp5.mono s6
  have hA6 := (hA2.mono s25).mono s6
  refine ⟨_, rfl, p, pw, ns, nr, rfl, hp6, hN, fun p7 H7 s7 _ h7 => ?_⟩
  rw [i1, i2] at h7
  refine ⟨_, rfl, a, pw, cs, r, rfl, hA6.mono s7, hO, fun p8 H8 s8 _ h8 => ?_⟩
  rw [hnc, hnr] at h8
  have rp : Rp 24000 2 (strD (mOf pw) ns nr) := rp_str (by omega) b19 (fun c hc => by have := hN.c0 c hc; omega) (by have := hN.r0; omega)
  have rp2 : Rp 100000 3 (.tuple [strD (mOf pw) ns nr, strD (mOf pw) ns nr]) := Rp.tup (n := 24000) (k := 2) (fun d hd => by
    simp only [List.mem_cons, List.not_mem_nil, or_false, or_self] at hd
    rw [hd]
    exact rp) (by show 3 + 2 * 24002 ≤ 100000; decide)
  refine ⟨(by show 2 ≤ sizeLine; decide), fun t nt => ?_⟩
  have s9 := same_new nt (.tup [.ref p7, .ref p8])
  refine ⟨_, _, rfl, (.tup (SqT.of upd_same) (.cons (dp_str ((h7.mono s8).mono s9)) (.cons (dp_str (h8.mono s9)) .nil))), rp2.sh, rp2.nd, Nat.le_trans rp2.dp (by decide), Nat.le_trans rp2.ln (by decide), ?_⟩
  generalize upd H8 t (.tup [.ref p7, .ref p8]) = H9 at s9
  have hp9 := (((hp6.mono s7).mono s8).mono s9)
  refine ⟨_, rfl, _, rfl, (by show 2 ≤ sizeLine; decide), fun t2 nt2 => ?_⟩
  have s10 := same_new nt2 (.tup [.ref p, .ref p])
  refine ⟨_, _, rfl, (.tup (SqT.of upd_same) (.cons (dp_str (hp9.mono s10)) (.cons (dp_str (hp9.mono s10)) .nil))), rp2.sh, rp2.nd, Nat.le_trans rp2.dp (by decide), Nat.le_trans rp2.ln (by decide), rfl, ?_⟩
  have z := q _ (((((((s1.trans s2).trans s25).trans s6).trans s7).trans s8).trans s9).trans s10)
  rw [← decide_eq_true (show V.str (PyData.tuple [strD (mOf pw) ns nr, strD (mOf pw) ns nr]).shown = V.str (PyData.tuple [strD (mOf pw) ns nr, strD (mOf pw) ns nr]).shown from rfl)] at z
  exact z
theorem cl__law_is_made_normal {X : Cx} {p pos : Pos} {e : Expr} {es : List Expr} {t : TA} (T : Txt K mg) (hq : Quiet X.A) (hr : Room 6 X.A) (ha : PA X (e :: es) t) (hg : Gl X "_law_is_made_normal" := by rfl)
    (he : starEach (e :: es) X.env = (false, eval e X.env) :: starEach es X.env := by rfl) (hpl : (backTo pos (starEach es X.env)).any (·.1) = false := by rfl) (hK : X.K = K := by rfl) (hmg : X.mg = mg := by rfl) :
    PE X (.Call (.Name "_law_is_made_normal" p) (e :: es) [] pos) (tCall (sp__law_is_made_normal K) [] E0 t) := by
  subst hK hmg
  exact pe_callG (ok__law_is_made_normal T) hq hr hg T.m__law_is_made_normal T.F__law_is_made_normal.kp T.b__law_is_made_normal .nil ha (by decide) he hpl
/-! ### told to be the same -/
def sp__law_is_due (K : PySem.W.Frag) : Sp := fun vs H Q _ => ∃ (a b : Addr) (pw qw : List (Nat × Nat)) (cs ds : List Int) (r s : Int) (due : Bool), vs = [.ref a, .ref b, .bl due] ∧ SAt K H a (mOf pw) cs r ∧ SOk pw cs r ∧ SAt K H b (mOf qw) ds s ∧ SOk qw ds s ∧
  (due = true ↔ mOf pw = mOf qw ∧ nfC pw cs = nfC qw ds ∧ nfR pw cs r = nfR qw ds s) ∧ ∀ H' : Hp, Same H H' → Q (.bl true) H'
theorem ok__law_is_due (T : Txt K mg) : GFn P w K mg base 6 T.a__law_is_due T.d__law_is_due ["_law_one", "_law_other", "_law_due"] (sp__law_is_due K) := by
  refine gfn_of T.F__law_is_due sc__law_is_due (fun vs H Q E h => ?_) (fun cdv A outer s H vs Q E hq hr h => ?_)
  · obtain ⟨a, b, pw, qw, cs, ds, r, s, due, rfl, _⟩ := h
    rfl
  obtain ⟨a, b, pw, qw, cs, ds, r, s, due, rfl, hA, hO, hB, hO2, hdue, q⟩ := h
  refine ⟨_, pss_cons (ps_set (i := 3) sc__law_is_due.nd rfl (Or.inl rfl) (pe_tup (pa_cons (cl_are_same T (hr.mono (by decide)) (pa_cons (pv 0) (pa_cons (pv 1) pa_nil))) (pa_cons (cl_are_same T (hr.mono (by decide)) (pa_cons (pv 1) (pa_cons (pv 0) pa_nil))) (pa_cons (pe_callN (gfn (ok_are_same T)) hq (hr.mono (by decide)) (by rfl) T.m_are_same T.F_are_same.kp T.kb_are_same_0_other_one (pk_cons (pv 1) (pk_cons (pv 0) pk_nil))) (pa_cons (pe_cmpR (op_eqD hr.units) (cl_normal_stripe T (hr.mono (by decide)) (pa_cons (pv 0) pa_nil)) (cl_normal_stripe T (hr.mono (by decide)) (pa_cons (pv 1) pa_nil)) (nomark _)) pa_nil))))))
    (pss_one (ps_ret (pe_cmpR op_eq (pe_callB (call_reprD hq hr.units) (by rfl) T.n_repr (by decide +kernel) (pa_cons (pv 3) pa_nil)) (pe_callB (call_reprD hq hr.units) (by rfl) T.n_repr (by decide +kernel) (pa_cons (pe_tup (pa_cons (pv 2) (pa_cons (pv 2) (pa_cons (pv 2) (pa_cons (pv 2) pa_nil))))) pa_nil)) (nomark _)))), ?_⟩
  have sym : (mOf qw = mOf pw ∧ nfC qw ds = nfC pw cs ∧ nfR qw ds s = nfR pw cs r) ↔ (mOf pw = mOf qw ∧ nfC pw cs = nfC qw ds ∧ nfR pw cs r = nfR qw ds s) :=
    ⟨fun h => ⟨h.1.symm, h.2.1.symm, h.2.2.symm⟩, fun h => ⟨h.1.symm, h.2.1.symm, h.2.2.symm⟩⟩
  have same : ∀ v : Bool, (v = true ↔ mOf pw = mOf qw ∧ nfC pw cs = nfC qw ds ∧ nfR pw cs r = nfR qw ds s) → v = due := fun v h => Bool.eq_iff_iff.mpr (h.trans hdue.symm)
  refine ⟨_, rfl, _, rfl, a, b, pw, qw, cs, ds, r, s, rfl, hA, hO, hB, hO2, fun v1 H1 s1 e1 => ?_⟩
  obtain rfl := same v1 e1
  refine ⟨_, rfl, _, rfl, b, a, qw, pw, ds, cs, s, r, rfl, hB.mono s1, hO2, hA.mono s1, hO, fun v2 H2 s2 e2 => ?_⟩
  obtain rfl := same v2 (e2.trans sym)
  have s12 := s1.trans s2
  refine ⟨_, rfl, _, rfl, a, b, pw, qw, cs, ds, r, s, rfl, hA.mono s12, hO, hB.mono s12, hO2, fun v3 H3 s3 e3 => ?_⟩
  obtain rfl := same v3 e3
  have s13 := s12.trans s3
  refine ⟨_, rfl, a, pw, cs, r, rfl, hA.mono s13, hO, fun p4 H4 s4 _ h4 => ?_⟩
  have s14 := s13.trans s4
  refine ⟨_, rfl, b, qw, ds, s, rfl, hB.mono s14, hO2, fun p5 H5 s5 _ h5 => ?_⟩
  refine ⟨strD _ _ _, strD _ _ _, dp_str (h4.mono s5), dp_str h5, shaped_str, shaped_str, ?_⟩
  have e4 := same (PyData.eqv (strD (mOf pw) (nfC pw cs) (nfR pw cs r)) (strD (mOf qw) (nfC qw ds) (nfR qw ds s))) (by rw [eqv_eq (strD_noBool _ _ _) (strD_noBool _ _ _), strD_inj])
  rw [e4]
  refine ⟨(by show 4 ≤ sizeLine; decide), fun t nt => ?_⟩
  have s6 := same_new nt (.tup [.bl v3, .bl v3, .bl v3, .bl v3])
  have rp : Rp 100 1 (.tuple [.bool v3, .bool v3, .bool v3, .bool v3]) := Rp.tup (n := 5) (k := 0) (fun d hd => by
    simp only [List.mem_cons, List.not_mem_nil, or_false, or_self] at hd
    rw [hd]
    exact Rp.bl v3) (by show 3 + 4 * 7 ≤ 100; decide)
  refine ⟨_, rfl, ?_⟩
  refine ⟨_, _, rfl, (.tup (SqT.of upd_same) (.cons (.bl v3) (.cons (.bl v3) (.cons (.bl v3) (.cons (.bl v3) .nil))))), rp.sh, rp.nd, Nat.le_trans rp.dp (by decide), Nat.le_trans rp.ln (by decide), ?_⟩
  refine ⟨_, rfl, _, rfl, _, rfl, _, rfl, (by show 4 ≤ sizeLine; decide), fun t2 nt2 => ?_⟩
  have s7 := same_new nt2 (.tup [.bl v3, .bl v3, .bl v3, .bl v3])
  refine ⟨_, _, rfl, (.tup (SqT.of upd_same) (.cons (.bl v3) (.cons (.bl v3) (.cons (.bl v3) (.cons (.bl v3) .nil))))), rp.sh, rp.nd, Nat.le_trans rp.dp (by decide), Nat.le_trans rp.ln (by decide), rfl, ?_⟩
  have z := q _ (((s14.trans s5).trans s6).trans s7)
  rw [← decide_eq_true (show V.str (PyData.tuple [.bool v3, .bool v3, .bool v3, .bool v3]).shown = V.str (PyData.tuple [.bool v3, .bool v3, .bool v3, .bool v3]).shown from rfl)] at z
  exact z
theorem cl__law_is_due {X : Cx} {p pos : Pos} {e : Expr} {es : List Expr} {t : TA} (T : Txt K mg) (hq : Quiet X.A) (hr : Room 6 X.A) (ha : PA X (e :: es) t) (hg : Gl X "_law_is_due" := by rfl)
    (he : starEach (e :: es) X.env = (false, eval e X.env) :: starEach es X.env := by rfl) (hpl : (backTo pos (starEach es X.env)).any (·.1) = false := by rfl) (hK : X.K = K := by rfl) (hmg : X.mg = mg := by rfl) :
    PE X (.Call (.Name "_law_is_due" p) (e :: es) [] pos) (tCall (sp__law_is_due K) [] E0 t) := by
  subst hK hmg
  exact pe_callG (ok__law_is_due T) hq hr hg T.m__law_is_due T.F__law_is_due.kp T.b__law_is_due .nil ha (by decide) he hpl
end
end KL
namespace KL
open PySem PySem.Spec PyProof.Rows L2 RZ StX SrtO Kw KM
theorem cutV_whole (xs : List V) {lo hi : Option Int} (h : HT.sIx xs.length 0 lo = 0 ∧ HT.sIx xs.length xs.length hi = xs.length) : cutV xs lo hi = xs := by
  unfold cutV
  rw [h.1, h.2, List.drop_zero, Nat.sub_zero, List.take_length]
theorem sl_any {K : PySem.W.Frag} {H : Hp} {Q : VK} {a : Addr} {xs : List V} {lo hi : Option Int} (ha : SqT K H a xs)
    (q : ∀ (p : Addr) (H' : Hp), Same H H' → SqT K H' p (cutV xs lo hi) → Q (.ref p) H') : rSlA K (.ref a) lo hi H Q := by
  refine ⟨a, xs, rfl, ha, fun h => ?_, fun _ p np => ?_⟩
  · exact q a H (Same.refl H) (by rw [cutV_whole xs h]; exact ha)
  · exact q p _ (same_new np _) (SqT.of upd_same)
theorem cut_to {α : List V} {k : Nat} (h : k ≤ α.length) : cutV α none (some (k : Int)) = α.take k := by
  unfold cutV
  rw [HT.sIx_none, HT.sIx_nat, Nat.min_eq_left h, List.drop_zero, Nat.sub_zero]
theorem cut_from {α : List V} {k : Nat} (h : k ≤ α.length) : cutV α (some (k : Int)) none = α.drop k := by
  unfold cutV
  rw [HT.sIx_none, HT.sIx_nat, Nat.min_eq_left h, ← List.length_drop, List.take_length]
end KL
namespace KL
open PySem PySem.Spec PyProof.Rows L2 RZ StX SrtO Kw KM
theorem sum_zero {p : Int} (hp : 0 < p) : ∀ cs : List Int, (cs.map fun c => c % p).sum = 0 ↔ ∀ c ∈ cs, p ∣ c
  | [] => by simp
  | c :: r => by
    have ih := sum_zero hp r
    have h1 : 0 ≤ c % p := Int.emod_nonneg _ (by omega)
    have h2 : ∀ r : List Int, 0 ≤ (r.map fun c => c % p).sum := by
      intro r
      induction r with
      | nil => simp
      | cons d r ih =>
        have : 0 ≤ d % p := Int.emod_nonneg _ (by omega)
        simp only [List.map_cons, List.sum_cons]
        omega
    have h3 := h2 r
    simp only [List.map_cons, List.sum_cons, List.mem_cons, forall_eq_or_imp]
    rw [← ih, Int.dvd_iff_emod_eq_zero]
    omega
section
variable {P : Program} {w : World} {K : PySem.W.Frag} {mg : Str → Option Value} {base : Heap}
/-! ### whether it is none -/
def sp__law_are_none (K : PySem.W.Frag) : Sp := fun vs H Q _ => ∃ (pa a : Addr) (pw : List (Nat × Nat)) (m : Nat) (cs : List Int) (r : Int), vs = [.ref pa, .ref a] ∧ Pw pw ∧ PwAt K H pa pw ∧ SAt K H a m cs r ∧ cs.length ≤ 3 ∧
  ∀ (v : Bool) (H' : Hp), Same H H' → (v = true ↔ ¬ Free pw cs) → Q (.bl v) H'
theorem ok__law_are_none (T : Txt K mg) : FnOk P w K mg base CX0 1 T.a__law_are_none T.d__law_are_none ["_law_powers_here", "_law_stripe"] (sp__law_are_none K) := by
  refine T.F__law_are_none.ok sc__law_are_none (fun vs H Q E h => ?_) (fun cdv A outer s H vs Q E hr h => ?_)
  · obtain ⟨pa, a, pw, m, cs, r, rfl, _⟩ := h
    rfl
  obtain ⟨pa, a, pw, m, cs, r, rfl, hw, hP, hA, h3, q⟩ := h
  refine ⟨_, pss_one (ps_ret (pe_cmpR (op_neDK (K := K) hr.units) (pe_lc (own := [("_law_p", 2), ("_law_q", 3)]) (g := gTup K 2 (gCons (gName 2) (gCons (gName 3) gNil))) rfl sc__law_are_none.nd (pi_listK (K := K) (pv 0)) (blkOk_by (N := N__law_are_none) (sc := defScope s__law_are_none) (by decide +kernel)) (fun _ _ _ _ _ => (pg_tup (by rfl) (pgs_cons (pg_name (i := 2) sc__law_are_none.nd rfl (Or.inr rfl)) (pgs_cons (pg_name (i := 3) sc__law_are_none.nd rfl (Or.inl rfl)) pgs_nil)))) (fun _ _ _ _ _ => (pts_one (pt_cmpR op_eq (pe_callB (cr_sumK (K := K)) (by rfl) T.n_sum (by decide +kernel) (pa_cons (pe_lc (own := [("_law_a", 4)]) rfl sc__law_are_none.nd (pi_tupK (K := K) (pe_ix (ix_tupK (K := K)) (pv 1) pe_int (fun _ _ => rfl))) (by exact blkOk_by (by kernel_rfl)) (fun _ _ _ _ _ => (pg_name (i := 4) sc__law_are_none.nd rfl (Or.inl rfl))) (fun _ _ _ _ _ => pts_nil) (fun _ _ _ _ _ => (pe_op op_mod (pe_callTy call_int1 (by rfl) T.n_int (by decide +kernel) (pa_cons (pv 4) pa_nil)) (pv 2)))) pa_nil)) pe_int (nomark _)))) (fun _ _ _ _ _ => (pv 2))) (pe_lst pa_nil) (nomark _))), ?_⟩
  obtain ⟨c, ha, hc⟩ := hA.at_
  obtain ⟨as, has, hl, hi⟩ := hP.ex
  have plen := pw_len hw
  refine ⟨_, rfl, pa, rfl, ⟨_, has⟩, fun D nD => lc_list (xs := as.map V.ref) (fun i H' => Same H H' ∧ ∃ L : List Int, L.length ≤ i ∧ H' D = some (.lst (L.map V.int)) ∧ (L = [] ↔ ∀ (j : Nat) (x : Nat × Nat), j < i → pw[j]? = some x → ∃ c ∈ cs, ¬ (x.1 : Int) ∣ c)) ⟨same_new nD _, [], Nat.le_refl _, upd_same, ⟨fun _ j _ hj => absurd hj (Nat.not_lt_zero j), fun _ => rfl⟩⟩ (fun i H' _ h => h.1.seq has) (fun i v H1 hx h => ?_) (fun H1 h => ?_)⟩
  · obtain ⟨s1, L, lL, eL, iff⟩ := h
    obtain ⟨t, x, ht, hxp, rfl, hilt⟩ := pairs_at hl hx
    have p2 := PN_lt _ (hw.mem (List.mem_of_getElem? hxp))
    have p0 : (0 : Int) < (x.1 : Int) := by omega
    refine ⟨t, _, rfl, s1.sqt (hi i t x ht hxp), rfl, _, _, rfl, _, _, rfl, rfl, rfl, ?_⟩
    refine ⟨_, rfl, a, _, 1, .ref c, rfl, rfl, s1.sqt ha, rfl, c, rfl, ⟨_, s1.sqt hc⟩, fun D2 nD2 => lc_tup (xs := cs.map V.int) (Lc H1 D2 fun j => ((cs.map fun c => c % (x.1 : Int)).take j).map V.int) (lc_start nD2 rfl) (fun _ _ _ h => h.1.sqt (s1.sqt hc)) (fun j v H2 hv h => ?_) (fun H2 h => ?_)⟩
    · rw [List.getElem?_map] at hv
      obtain ⟨z, hz, rfl⟩ := Option.map_eq_some_iff.mp hv
      refine ⟨rfl, yes_ (iteT ?_)⟩
      refine ⟨_, rfl, .inl ⟨_, rfl, _, rfl, _, _, rfl, rfl, p0, lc_leaf nD2 h.1 h.2 (by simp only [List.length_map, List.length_take]; omega) ?_⟩⟩
      rw [List.take_add_one, List.getElem?_map, hz, List.map_append]
      rfl
    · obtain ⟨s2, e2⟩ := lc_done h (ys := (cs.map fun c => c % (x.1 : Int)).map V.int) (by
        show ((cs.map fun c => c % (x.1 : Int)).take (cs.map V.int).length).map V.int = _
        rw [List.take_of_length_le (by simp)])
      refine ⟨D2, _, rfl, SqL.of e2, rfl, _, rfl, ?_⟩
      have e3 := s2 _ _ eL
      have s12 := s1.trans s2
      have sz := sum_zero p0 cs
      have split : (∀ (j : Nat) (y : Nat × Nat), j < i + 1 → pw[j]? = some y → ∃ c ∈ cs, ¬ (y.1 : Int) ∣ c) ↔ (∀ (j : Nat) (y : Nat × Nat), j < i → pw[j]? = some y → ∃ c ∈ cs, ¬ (y.1 : Int) ∣ c) ∧ ∃ c ∈ cs, ¬ (x.1 : Int) ∣ c := by
        constructor
        · intro h
          exact ⟨fun j y hj hy => h j y (by omega) hy, h i x (by omega) hxp⟩
        · rintro ⟨h1, h2⟩ j y hj hy
          by_cases e : j = i
          · subst e
            rw [hxp] at hy
            cases hy
            exact h2
          · exact h1 j y (by omega) hy
      refine ite2 (fun cc => ?_) (fun cc => ?_)
      · have cc : ∀ c ∈ cs, (x.1 : Int) ∣ c := sz.mp (V.int.inj (of_decide_eq_true cc))
        refine ⟨_, rfl, _, e3, ?_, same_upd2 s12 nD, L ++ [(x.1 : Int)], by simp; omega, ?_, ?_⟩
        · rw [List.length_map]
          exact Nat.lt_of_lt_of_le (show L.length < 11 by omega) (by decide)
        · rw [upd_same, List.map_append]
          rfl
        · rw [split]
          constructor
          · intro z
            simp at z
          · rintro ⟨_, c, hc, nd⟩
            exact absurd (cc c hc) nd
      · have cc : ∃ c ∈ cs, ¬ (x.1 : Int) ∣ c := by
          refine Classical.byContradiction fun z => cc (decide_eq_true (congrArg V.int (sz.mpr fun c hc => ?_)))
          exact Classical.byContradiction fun nd => z ⟨c, hc, nd⟩
        exact ⟨s12, L, by omega, e3, by rw [split]; exact iff.trans ⟨fun h => ⟨h, cc⟩, fun h => h.1⟩⟩
  · obtain ⟨s1, L, lL, eL, iff⟩ := h
    rw [List.length_map, hl] at iff
    refine ⟨(by show 0 ≤ sizeLine; exact Nat.zero_le _), fun q1 nq => ?_⟩
    have sq := same_new nq (.lst [])
    refine ⟨.list (L.map PyData.int), .list [], .lst (SqL.of (sq _ _ eL)) (dpAll_ints L), .lst (SqL.of upd_same) .nil, shaped_lst, shaped_lst (cs := []), q _ _ (s1.trans sq) ?_⟩
    rw [eqv_lst_nil]
    have f : L = [] ↔ Free pw cs := iff.trans ⟨fun h x hx => by
      obtain ⟨j, hj, e⟩ := List.mem_iff_getElem.mp hx
      exact h j x hj (by rw [← e]; exact List.getElem?_eq_getElem hj), fun h j x _ hx => h x (List.mem_of_getElem? hx)⟩
    rw [← f]
    by_cases e : L = [] <;> simp [e]
theorem cl__law_are_none {X : Cx} {p pos : Pos} {e : Expr} {es : List Expr} {t : TA} (T : Txt K mg) (hr : Room 1 X.A) (ha : PA X (e :: es) t) (hg : Gl X "_law_are_none" := by rfl)
    (he : starEach (e :: es) X.env = (false, eval e X.env) :: starEach es X.env := by rfl) (hpl : (backTo pos (starEach es X.env)).any (·.1) = false := by rfl) (hK : X.K = K := by rfl) (hmg : X.mg = mg := by rfl) :
    PE X (.Call (.Name "_law_are_none" p) (e :: es) [] pos) (tCall (sp__law_are_none K) [] E0 t) := by
  subst hK hmg
  exact pe_call (ok__law_are_none T) hr hg T.m__law_are_none T.F__law_are_none.kp T.b__law_are_none .nil pass0 ha (by decide) he hpl
/-! ### changed -/
def sp__law_changed (K : PySem.W.Frag) : Sp := fun vs H Q _ => ∃ (d l pa a : Addr) (pw : List (Nat × Nat)) (cs : List Int) (r : Int), vs = [.ref d, .ref pa, .ref a] ∧ DeckAt H d l ∧ PerD pw ∧ PwAt K H pa pw ∧ pa ≠ l ∧ SAt K H a (mOf pw) cs r ∧ SOk pw cs r ∧
  ∀ (p : Addr) (ds : List Int) (s : Int) (H' : Hp), Stp d l H H' → SAt K H' p (mOf pw) ds s → ds.length = cs.length → (∀ c ∈ ds, 0 ≤ c ∧ c < (mOf pw : Nat)) → 0 ≤ s → s < (mOf pw : Nat) → Q (.ref p) H'
theorem ok__law_changed (T : Txt K mg) : FnOk P w K mg base CX0 4 T.a__law_changed T.d__law_changed ["_law_deck_here", "_law_powers_here", "_law_stripe"] (sp__law_changed K) := by
  refine T.F__law_changed.ok sc__law_changed (fun vs H Q E h => ?_) (fun cdv A outer s H vs Q E hr h => ?_)
  · obtain ⟨d, l, pa, a, pw, cs, r, rfl, _⟩ := h
    rfl
  obtain ⟨d, l, pa, a, pw, cs, r, rfl, hD, hP, hPa, hal, hA, hO, q⟩ := h
  refine ⟨_, pss_cons (ps_asg (pv 2) (pg_tup (by rfl) (pgs_cons (pg_name (i := 3) sc__law_changed.nd rfl (Or.inr rfl)) (pgs_cons (pg_name (i := 4) sc__law_changed.nd rfl (Or.inl rfl)) (pgs_cons (pg_name (i := 5) sc__law_changed.nd rfl (Or.inl rfl)) pgs_nil)))))
    (pss_cons (ps_set (i := 6) sc__law_changed.nd rfl (Or.inl rfl) (pe_op op_cat (pe_op op_cat (pe_lst (pa_cons pe_int (pa_cons (pe_op op_sub (pv 3) pe_int) (pa_cons (cl__law_great T (hr.mono (by decide)) (pa_cons (pv 0) (pa_cons (pv 3) pa_nil))) pa_nil)))) (pe_lc (own := [("_law_p", 10), ("_law_q", 11)]) (g := gTup K 2 (gCons (gName 10) (gCons (gName 11) gNil))) rfl sc__law_changed.nd (pi_list (pv 1)) (blkOk_by (N := N__law_changed) (sc := defScope s__law_changed) (by decide +kernel)) (fun _ _ _ _ _ => (pg_tup (by rfl) (pgs_cons (pg_name (i := 10) sc__law_changed.nd rfl (Or.inl rfl)) (pgs_cons (pg_name (i := 11) sc__law_changed.nd rfl (Or.inl rfl)) pgs_nil)))) (fun _ _ _ _ _ => pts_nil) (fun _ _ _ _ _ => (pe_op op_fdivW (pv 3) (pv 10))))) (pe_lc (own := [("_law_p", 10), ("_law_q", 11)]) (g := gTup K 2 (gCons (gName 10) (gCons (gName 11) gNil))) rfl sc__law_changed.nd (pi_list (pv 1)) (blkOk_by (N := N__law_changed) (sc := defScope s__law_changed) (by decide +kernel)) (fun _ _ _ _ _ => (pg_tup (by rfl) (pgs_cons (pg_name (i := 10) sc__law_changed.nd rfl (Or.inl rfl)) (pgs_cons (pg_name (i := 11) sc__law_changed.nd rfl (Or.inl rfl)) pgs_nil)))) (fun _ _ _ _ _ => pts_nil) (fun _ _ _ _ _ => (pe_op op_fdivW (pv 3) (pv 11))))))
    (pss_cons (ps_par3 (i := 7) (j := 8) (l := 9) (by rfl) sc__law_changed.nd rfl rfl rfl (by decide) (by decide) (by decide) rfl rfl rfl (pa_cons (cl__law_draw T (hr.mono (by decide)) (pa_cons (pv 0) (pa_cons pe_int pa_nil))) (pa_cons (cl__law_draw T (hr.mono (by decide)) (pa_cons (pv 0) (pa_cons (pe_callB call_len_seq (by rfl) T.n_len (by decide +kernel) (pa_cons (pv 4) pa_nil)) pa_nil))) (pa_cons (cl__law_pick T (hr.mono (by decide)) (pa_cons (pv 0) (pa_cons (pv 6) pa_nil))) pa_nil))) (by rfl))
    (pss_cons (ps_if (pt_cmpR op_eq (pv 7) pe_int (nomark _)) (pss_one (ps_ret (pe_tup (pa_cons (pv 3) (pa_cons (pe_op (op_catAK (K := K)) (pe_op (op_catAK (K := K)) (pe_slice (sl_tupAK (K := K)) (pv 4) po_none (po_some (pv 8))) (pe_tup (pa_cons (pe_op op_mod (pe_callTy call_int1 (by rfl) T.n_int (by decide +kernel) (pa_cons (pe_op op_add (pe_ix (ix_tupK (K := K)) (pv 4) (pv 8) (fun _ _ => rfl)) (pv 9)) pa_nil)) (pv 3)) pa_nil))) (pe_slice (sl_tupAK (K := K)) (pv 4) (po_some (pe_op op_add (pv 8) pe_int)) po_none)) (pa_cons (pv 5) pa_nil)))))) pss_nil)
    (pss_cons (ps_if (pt_cmpR op_eq (pv 7) pe_int (nomark _)) (pss_one (ps_ret (cl__law_by T (hr.mono (by decide)) (pa_cons (pe_tup (pa_cons (pv 3) (pa_cons (pv 4) (pa_cons (pe_op op_mod (pe_callTy call_int1 (by rfl) T.n_int (by decide +kernel) (pa_cons (pe_op op_add (pv 5) (pv 9)) pa_nil)) (pv 3)) pa_nil)))) (pa_cons (cl__law_unit T (hr.mono (by decide)) (pa_cons (pv 0) (pa_cons (pv 1) (pa_cons (pv 3) pa_nil)))) pa_nil))))) pss_nil)
    (pss_cons (ps_if (pt_cmpR op_eq (pv 7) pe_int (nomark _)) (pss_one (ps_ret (pe_tup (pa_cons (pv 3) (pa_cons (pe_ix (ix_tupK (K := K)) (cl__law_by T (hr.mono (by decide)) (pa_cons (pv 2) (pa_cons (cl__law_unit T (hr.mono (by decide)) (pa_cons (pv 0) (pa_cons (pv 1) (pa_cons (pv 3) pa_nil)))) pa_nil))) pe_int (fun _ _ => rfl)) (pa_cons (pv 5) pa_nil)))))) pss_nil)
    (pss_one (ps_ret (pe_tup (pa_cons (pv 3) (pa_cons (pv 4) (pa_cons (pe_op op_mod (pe_callTy call_int1 (by rfl) T.n_int (by decide +kernel) (pa_cons (pe_op op_add (pv 5) (pv 9)) pa_nil)) (pv 3)) pa_nil))))))))))), ?_⟩
  have hw := hP.ok
  have hm := mOf_pos hw
  have hlt := hP.lt
  have m0 : (0 : Int) < ((mOf pw : Nat) : Int) := by omega
  have bm : Bd 133 ((mOf pw : Nat) : Int) := by
    unfold Bd
    have : (10 : Nat) ^ 40 < 2 ^ 133 := by decide
    omega
  have small : ∀ n : Nat, n < 100 → Bd 2000 (n : Int) := fun n h => bdN (n := n) (by omega) (by omega) (Nat.lt_of_lt_of_le h (by decide))
  have plen := pw_len hw
  have l1 := hO.l1
  have l3 := hO.l3
  have c0 := hO.c0
  obtain ⟨c, ha, hc⟩ := hA.at_
  refine ⟨_, rfl, a, _, rfl, ha, rfl, _, _, rfl, _, _, rfl, _, _, rfl, rfl, ?_⟩
  -- the parts
  refine ⟨_, rfl, _, _, rfl, rfl, _, rfl, _, rfl, d, l, _, rfl, hD, by omega, bm.mono (by decide), fun g H1 g0 g1 st1 => ?_⟩
  refine ⟨(by show 3 ≤ sizeLine; decide), fun L1 nL1 => ?_⟩
  have st2 := st1.same (same_new nL1 (.lst [.int 1, .int (((mOf pw : Nat) : Int) - 1), .int g]))
  have e2 : (upd H1 L1 (.lst [.int 1, .int (((mOf pw : Nat) : Int) - 1), .int g])) L1 = some (.lst ([(1 : Int), ((mOf pw : Nat) : Int) - 1, g].map V.int)) := upd_same
  generalize upd H1 L1 (.lst [.int 1, .int (((mOf pw : Nat) : Int) - 1), .int g]) = H2 at st2 e2
  have k1 : ∀ k ∈ [(1 : Int), ((mOf pw : Nat) : Int) - 1, g], 0 ≤ k ∧ k ≤ ((mOf pw : Nat) : Int) := by
    intro k hk
    simp only [List.mem_cons, List.not_mem_nil, or_false] at hk
    rcases hk with rfl | rfl | rfl <;> omega
  generalize hks : [(1 : Int), ((mOf pw : Nat) : Int) - 1, g] = ks1 at e2 k1
  have kl1 : ks1.length = 3 := by rw [← hks]; rfl
  clear hks
  obtain ⟨as, has, hl, hi⟩ := (hPa.stp st2 hal).ex
  have alen : as.length ≤ 10 := by omega
  have quot : ∀ n : Nat, 0 ≤ ((mOf pw : Nat) : Int) / (n : Int) ∧ ((mOf pw : Nat) : Int) / (n : Int) ≤ ((mOf pw : Nat) : Int) := by
    intro n
    rw [← Int.natCast_ediv]
    have := Nat.div_le_self (mOf pw) n
    exact ⟨Int.natCast_nonneg _, Int.ofNat_le.mpr this⟩
  refine ⟨_, rfl, pa, rfl, ⟨_, has⟩, fun D nD => lc_list (xs := as.map V.ref) (fun i H' => Same H2 H' ∧ ∃ ks : List Int, ks.length = i ∧ H' D = some (.lst (ks.map V.int)) ∧ ∀ k ∈ ks, 0 ≤ k ∧ k ≤ ((mOf pw : Nat) : Int)) ⟨same_new nD _, [], rfl, upd_same, fun _ h => absurd h List.not_mem_nil⟩ (fun i H' _ h => h.1.seq has) (fun i v H' hx h => ?_) (fun H' h => ?_)⟩
  · obtain ⟨s16, ks, kl, e16, kb⟩ := h
    obtain ⟨t, x, ht, hxp, rfl, hilt⟩ := pairs_at hl hx
    have x2 := PN_lt _ (hw.mem (List.mem_of_getElem? hxp))
    refine ⟨t, _, rfl, s16.sqt (hi i t x ht hxp), rfl, _, _, rfl, _, _, rfl, rfl, rfl, yes_ (iteT ?_)⟩
    refine ⟨_, rfl, _, rfl, _, _, rfl, rfl, Bd.divOk (b := 5) (by omega) (by unfold Bd; omega) (by decide) _, _, e16, ?_, same_upd2 s16 nD, ks ++ [((mOf pw : Nat) : Int) / (x.1 : Int)], by simp [kl], ?_, fun k hk => ?_⟩
    · rw [List.length_map, kl]
      exact Nat.lt_of_lt_of_le (show i < 10 by omega) (by decide)
    · rw [upd_same, List.map_append]
      rfl
    · rcases List.mem_append.mp hk with z | z
      · exact kb k z
      · rw [List.mem_singleton.mp z]
        exact quot x.1
  obtain ⟨s16, ks2, kl2, e16, k2⟩ := h
  have kl2 : ks2.length ≤ 10 := by rw [kl2, List.length_map]; exact alen
  refine ⟨_, _, _, _, rfl, rfl, s16 _ _ e2, e16, ?_, fun L2_ nL2 => ?_⟩
  · simp only [List.length_map]
    exact Nat.le_trans (show ks1.length + ks2.length ≤ 15 by omega) (by decide)
  have s17 := s16.trans (same_new nL2 (.lst (ks1.map V.int ++ ks2.map V.int)))
  have e17 : (upd H' L2_ (.lst (ks1.map V.int ++ ks2.map V.int))) L2_ = some (.lst ((ks1 ++ ks2).map V.int)) := by rw [upd_same, List.map_append]
  generalize upd H' L2_ (.lst (ks1.map V.int ++ ks2.map V.int)) = H17 at s17 e17
  have k3 : ∀ k ∈ ks1 ++ ks2, 0 ≤ k ∧ k ≤ ((mOf pw : Nat) : Int) := fun k hk => by
    rcases List.mem_append.mp hk with z | z
    · exact k1 k z
    · exact k2 k z
  have kl3 : (ks1 ++ ks2).length ≤ 15 ∧ 1 ≤ (ks1 ++ ks2).length := by rw [List.length_append]; omega
  generalize ks1 ++ ks2 = ks3 at e17 k3 kl3
  clear e16 s16 e2 k1 k2 kl1 kl2
  have has17 := s17.seq has
  refine ⟨_, rfl, pa, rfl, ⟨_, has17⟩, fun D3 nD3 => lc_list (xs := as.map V.ref) (fun i H' => Same H17 H' ∧ ∃ ks : List Int, ks.length = i ∧ H' D3 = some (.lst (ks.map V.int)) ∧ ∀ k ∈ ks, 0 ≤ k ∧ k ≤ ((mOf pw : Nat) : Int)) ⟨same_new nD3 _, [], rfl, upd_same, fun _ h => absurd h List.not_mem_nil⟩ (fun i H' _ h => h.1.seq has17) (fun i v H' hx h => ?_) (fun H' h => ?_)⟩
  · obtain ⟨s18, ks, kl, e18, kb⟩ := h
    obtain ⟨t, x, ht, hxp, rfl, hilt⟩ := pairs_at hl hx
    have qx := qOf_le hw (List.mem_of_getElem? hxp)
    refine ⟨t, _, rfl, (s17.trans s18).sqt (hi i t x ht hxp), rfl, _, _, rfl, _, _, rfl, rfl, rfl, yes_ (iteT ?_)⟩
    refine ⟨_, rfl, _, rfl, _, _, rfl, rfl, Bd.divOk (b := 133) (by omega) (by unfold Bd at *; omega) (by decide) _, _, e18, ?_, same_upd2 s18 nD3, ks ++ [((mOf pw : Nat) : Int) / ((qOf x : Nat) : Int)], by simp [kl], ?_, fun k hk => ?_⟩
    · rw [List.length_map, kl]
      exact Nat.lt_of_lt_of_le (show i < 10 by omega) (by decide)
    · rw [upd_same, List.map_append]
      rfl
    · rcases List.mem_append.mp hk with z | z
      · exact kb k z
      · rw [List.mem_singleton.mp z]
        exact quot (qOf x)
  obtain ⟨s18, ks4, kl4, e18, k4⟩ := h
  have kl4 : ks4.length ≤ 10 := by rw [kl4, List.length_map]; exact alen
  refine ⟨_, _, _, _, rfl, rfl, s18 _ _ e17, e18, ?_, fun L3 nL3 => ?_⟩
  · simp only [List.length_map]
    exact Nat.le_trans (show ks3.length + ks4.length ≤ 25 by omega) (by decide)
  have s19 := s18.trans (same_new nL3 (.lst (ks3.map V.int ++ ks4.map V.int)))
  have st19 := (st2.same s17).same s19
  have off3 : L3 ≠ l := ((st2.same s17).same s18).post.off nL3
  have e19 : (upd H' L3 (.lst (ks3.map V.int ++ ks4.map V.int))) L3 = some (.lst ((ks3 ++ ks4).map V.int)) := by rw [upd_same, List.map_append]
  generalize upd H' L3 (.lst (ks3.map V.int ++ ks4.map V.int)) = H19 at st19 e19 s19
  have k5 : ∀ k ∈ ks3 ++ ks4, 0 ≤ k ∧ k ≤ ((mOf pw : Nat) : Int) := fun k hk => by
    rcases List.mem_append.mp hk with z | z
    · exact k3 k z
    · exact k4 k z
  have kl5 : (ks3 ++ ks4).length ≤ 25 ∧ 1 ≤ (ks3 ++ ks4).length := by rw [List.length_append]; omega
  generalize ks3 ++ ks4 = ks at e19 k5 kl5
  clear e18 s18 e17 k3 k4 kl3 kl4 has17
  -- the way, the place, how much more
  refine ⟨_, rfl, d, l, 4, rfl, st19.post, by decide, small 4 (by decide), fun way H20 w0 w1 st20 => ?_⟩
  have st20' := st19.trans st20
  refine ⟨_, rfl, _, rfl, c, _, rfl, .inr (st20'.sqt hc), d, l, _, rfl, st20'.post, by rw [List.length_map]; omega, by rw [List.length_map]; exact small _ (by omega), fun at_ H21 a0 a1 st21 => ?_⟩
  rw [List.length_map] at a1
  have st21' := st20'.trans st21
  refine ⟨_, rfl, _, rfl, d, l, L3, _, rfl, st21'.post, SqL.of (st21.lst off3 (st20.lst off3 e19)), off3, by rw [List.length_map]; omega, by rw [List.length_map]; omega, fun v H22 hv st22 => ?_⟩
  obtain ⟨more, hmore, rfl⟩ := List.mem_map.mp hv
  have mb := k5 more hmore
  refine ⟨_, _, _, rfl, ?_⟩
  have st := st21'.trans st22
  clear st22 st21' st21 st20' st20 st19 s19 e19 off3 nL3 nL2 nD nD3 k5 kl5 hv hmore ks s17 st2 st1 quot
  obtain ⟨i, rfl⟩ : ∃ i : Nat, at_ = (i : Int) := ⟨at_.toNat, by omega⟩
  have hi : i < cs.length := by omega
  have hc2 := st.sqt hc
  have r0 := hO.r0
  have cl : (cs.map V.int).length = cs.length := List.length_map _
  have fin : ∀ (p t : Addr) (ds : List Int) (s : Int) (H3 H4 : Hp), Stp d l H H3 → Same H3 H4 → SqT K H4 t (ds.map V.int) → SqT K H4 p [.int ((mOf pw : Nat) : Int), .ref t, .int s] → ds.length = cs.length → (∀ c ∈ ds, 0 ≤ c ∧ c < (mOf pw : Nat)) → 0 ≤ s → s < (mOf pw : Nat) → Q (.ref p) H4 :=
    fun p t ds s H3 H4 st3 s4 ht hp hl hb s0 s1 => q p ds s H4 (st3.same s4) ⟨t, hp, ht⟩ hl hb s0 s1
  refine ⟨_, rfl, rfl, _, rfl, ite2 (fun _ => ?_) (fun _ => ?_)⟩
  · refine ⟨_, rfl, _, rfl, _, rfl, _, rfl, ?_⟩
    refine sl_any hc2 fun p1 H3 s3 h1 => ?_
    rw [cut_to (by rw [cl]; omega)] at h1
    have hc3 := s3.sqt hc2
    refine ⟨_, rfl, _, rfl, c, _, _, _, rfl, rfl, hc3, atI_nat (ints_at (List.getElem?_eq_getElem hi)), _, rfl, _, _, rfl, rfl, .inl ⟨_, rfl, _, rfl, _, _, rfl, rfl, m0, (by show 1 ≤ sizeLine; decide), fun t nt => ?_⟩⟩
    have s4 := same_new nt (.tup [V.int ((cs[i] + more) % ((mOf pw : Nat) : Int))])
    refine cat_any (s4.sqt h1) (SqT.of upd_same) ?_ fun p2 H5 s5 h2 => ?_
    · simp only [List.length_take, List.length_map, List.length_cons, List.length_nil]
      exact Nat.le_trans (show min i cs.length + (0 + 1) ≤ 10 by omega) (by decide)
    have hc5 := s5.sqt (s4.sqt hc3)
    refine ⟨_, rfl, _, rfl, _, _, rfl, rfl, _, rfl, ?_⟩
    have e1 : (i : Int) + 1 = ((i + 1 : Nat) : Int) := by omega
    rw [e1]
    dsimp only [tNoPart]
    refine sl_any hc5 fun p3 H6 s6 h3 => ?_
    rw [cut_from (by rw [cl]; omega)] at h3
    refine cat_any (s6.sqt h2) h3 ?_ fun p4 H7 s7 h4 => ?_
    · simp only [List.length_append, List.length_take, List.length_drop, List.length_map, List.length_cons, List.length_nil]
      exact Nat.le_trans (show min i cs.length + (0 + 1) + (cs.length - (i + 1)) ≤ 10 by omega) (by decide)
    refine ⟨_, rfl, (by show 3 ≤ sizeLine; decide), fun t8 nt8 => ?_⟩
    have s8 := same_new nt8 (.tup [.int ((mOf pw : Nat) : Int), .ref p4, .int r])
    have eset : (cs.map V.int).take i ++ [V.int ((cs[i] + more) % ((mOf pw : Nat) : Int))] ++ (cs.map V.int).drop (i + 1) = (cs.set i ((cs[i] + more) % ((mOf pw : Nat) : Int))).map V.int := by
      rw [List.set_eq_take_append_cons_drop, if_pos hi, List.map_append, List.map_cons, List.map_take, List.map_drop]
      simp
    rw [eset] at h4
    refine fin t8 p4 _ r _ _ st (((((s3.trans s4).trans s5).trans s6).trans s7).trans s8) (s8.sqt h4) (SqT.of upd_same) (by simp) (fun z hz => ?_) r0.1 r0.2
    rcases List.mem_or_eq_of_mem_set hz with k | k
    · exact c0 z k
    · rw [k]
      exact emodB _ m0
  refine ⟨_, rfl, rfl, _, rfl, ite2 (fun _ => ?_) (fun _ => ?_)⟩
  · refine ⟨_, rfl, _, rfl, _, rfl, _, rfl, _, _, rfl, rfl, .inl ⟨_, rfl, _, rfl, _, _, rfl, rfl, m0, (by show 3 ≤ sizeLine; decide), fun t nt => ?_⟩⟩
    have s3 := same_new nt (.tup [.int ((mOf pw : Nat) : Int), .ref c, .int ((r + more) % ((mOf pw : Nat) : Int))])
    have st3 := st.same s3
    have rb := emodB (r + more) m0
    have hs3 : SAt K (upd H22 t (.tup [.int ((mOf pw : Nat) : Int), .ref c, .int ((r + more) % ((mOf pw : Nat) : Int))])) t (mOf pw) cs ((r + more) % ((mOf pw : Nat) : Int)) := ⟨c, SqT.of upd_same, s3.sqt hc2⟩
    generalize upd H22 t (.tup [.int ((mOf pw : Nat) : Int), .ref c, .int ((r + more) % ((mOf pw : Nat) : Int))]) = H3 at s3 st3 hs3
    refine ⟨_, rfl, _, rfl, _, rfl, d, l, pa, pw, rfl, st3.post, hP, hPa.stp st3 hal, hal, fun u H4 hu bu st4 => ?_⟩
    have st5 := st3.trans st4
    refine ⟨t, mOf pw, cs, _, (u : Int), rfl, hs3.stp st4, hm, l3, hO.bd, by unfold Bd at *; omega, bu.mono (by decide), fun p H6 s6 hp => ?_⟩
    exact q p _ _ H6 (st5.same s6) hp (mulM_len _ _ _) (fun z hz => mem_mulM hm hz) (emodB _ m0).1 (emodB _ m0).2
  refine ⟨_, rfl, rfl, _, rfl, ite2 (fun _ => ?_) (fun _ => ?_)⟩
  · refine ⟨_, rfl, _, rfl, _, rfl, _, rfl, _, rfl, d, l, pa, pw, rfl, st.post, hP, hPa.stp st hal, hal, fun u H4 hu bu st4 => ?_⟩
    have st5 := st.trans st4
    refine ⟨a, mOf pw, cs, r, (u : Int), rfl, hA.stp st5, hm, l3, hO.bd, hO.rbd, bu.mono (by decide), fun p H6 s6 hp => ?_⟩
    obtain ⟨c6, hp1, hp2⟩ := hp.at_
    refine ⟨p, _, 1, .ref c6, rfl, rfl, hp1, rfl, _, rfl, (by show 3 ≤ sizeLine; decide), fun t8 nt8 => ?_⟩
    have s8 := same_new nt8 (.tup [.int ((mOf pw : Nat) : Int), .ref c6, .int r])
    exact fin t8 c6 _ r _ _ st5 (s6.trans s8) (s8.sqt hp2) (SqT.of upd_same) (mulM_len _ _ _) (fun z hz => mem_mulM hm hz) r0.1 r0.2
  · refine ⟨_, rfl, _, rfl, _, rfl, _, rfl, _, _, rfl, rfl, .inl ⟨_, rfl, _, rfl, _, _, rfl, rfl, m0, (by show 3 ≤ sizeLine; decide), fun t8 nt8 => ?_⟩⟩
    have s8 := same_new nt8 (.tup [.int ((mOf pw : Nat) : Int), .ref c, .int ((r + more) % ((mOf pw : Nat) : Int))])
    exact fin t8 c _ _ _ _ st s8 (s8.sqt hc2) (SqT.of upd_same) rfl c0 (emodB _ m0).1 (emodB _ m0).2
theorem cl__law_changed {X : Cx} {p pos : Pos} {e : Expr} {es : List Expr} {t : TA} (T : Txt K mg) (hr : Room 4 X.A) (ha : PA X (e :: es) t) (hg : Gl X "_law_changed" := by rfl)
    (he : starEach (e :: es) X.env = (false, eval e X.env) :: starEach es X.env := by rfl) (hpl : (backTo pos (starEach es X.env)).any (·.1) = false := by rfl) (hK : X.K = K := by rfl) (hmg : X.mg = mg := by rfl) :
    PE X (.Call (.Name "_law_changed" p) (e :: es) [] pos) (tCall (sp__law_changed K) [] E0 t) := by
  subst hK hmg
  exact pe_call (ok__law_changed T) hr hg T.m__law_changed T.F__law_changed.kp T.b__law_changed .nil pass0 ha (by decide) he hpl
end
end KL
namespace KL
open PySem PySem.Spec PyProof.Rows L2 RZ StX SrtO Kw KM
/-- a stripe with the same normal form as a given one -/
structure Way (K : PySem.W.Frag) (H : Hp) (pw : List (Nat × Nat)) (cs : List Int) (r : Int) (v : V) : Prop where
  ex : ∃ (a : Addr) (ds : List Int) (s : Int), v = .ref a ∧ SAt K H a (mOf pw) ds s ∧ SOk pw ds s ∧ ds.length = cs.length ∧ nfC pw ds = nfC pw cs ∧ nfR pw ds s = nfR pw cs r
theorem Way.same {K : PySem.W.Frag} {H H' : Hp} {pw : List (Nat × Nat)} {cs : List Int} {r : Int} {v : V} (h : Way K H pw cs r v) (s : Same H H') : Way K H' pw cs r v := by
  obtain ⟨a, ds, s', e, h1, h2⟩ := h.ex
  exact ⟨a, ds, s', e, h1.mono s, h2⟩
theorem Way.stp {K : PySem.W.Frag} {H H' : Hp} {d l : Addr} {pw : List (Nat × Nat)} {cs : List Int} {r : Int} {v : V} (h : Way K H pw cs r v) (s : Stp d l H H') : Way K H' pw cs r v := by
  obtain ⟨a, ds, s', e, h1, h2⟩ := h.ex
  exact ⟨a, ds, s', e, h1.stp s, h2⟩
structure Sk (K : PySem.W.Frag) (H : Hp) (d l pa o t : Addr) (pw : List (Nat × Nat)) (cs : List Int) (r : Int) (ds : List Int) (s : Int) : Prop where
  deck : DeckAt H d l
  pws : PwAt K H pa pw
  one : SAt K H o (mOf pw) cs r
  two : SAt K H t (mOf pw) ds s
theorem Sk.stp {K : PySem.W.Frag} {H H' : Hp} {d l pa o t : Addr} {pw : List (Nat × Nat)} {cs : List Int} {r : Int} {ds : List Int} {s : Int} (h : Sk K H d l pa o t pw cs r ds s) (n : pa ≠ l) (st : Stp d l H H') : Sk K H' d l pa o t pw cs r ds s :=
  ⟨st.post, h.pws.stp st n, h.one.stp st, h.two.stp st⟩
theorem Sk.same {K : PySem.W.Frag} {H H' : Hp} {d l pa o t : Addr} {pw : List (Nat × Nat)} {cs : List Int} {r : Int} {ds : List Int} {s : Int} (h : Sk K H d l pa o t pw cs r ds s) (n : pa ≠ l) (st : Same H H') : Sk K H' d l pa o t pw cs r ds s :=
  h.stp n (h.deck.stp st)
/-- the ways: a list of one's own -/
structure Ws (K : PySem.W.Frag) (H : Hp) (L : Addr) (pw : List (Nat × Nat)) (cs : List Int) (r : Int) (vs : List V) : Prop where
  at_ : H L = some (.lst vs)
  all : ∀ v ∈ vs, Way K H pw cs r v
theorem Ws.stp {K : PySem.W.Frag} {H H' : Hp} {d l L : Addr} {pw : List (Nat × Nat)} {cs : List Int} {r : Int} {vs : List V} (h : Ws K H L pw cs r vs) (n : L ≠ l) (st : Stp d l H H') : Ws K H' L pw cs r vs := ⟨st.lst n h.at_, fun v hv => (h.all v hv).stp st⟩
theorem Ws.same {K : PySem.W.Frag} {H H' : Hp} {L : Addr} {pw : List (Nat × Nat)} {cs : List Int} {r : Int} {vs : List V} (h : Ws K H L pw cs r vs) (st : Same H H') : Ws K H' L pw cs r vs := ⟨st _ _ h.at_, fun v hv => (h.all v hv).same st⟩
theorem nat_ints {cs : List Nat} {m : Nat} (h : ∀ c ∈ cs, c < m) : ∀ c ∈ intsN cs, 0 ≤ c ∧ c < (m : Int) := by
  intro c hc
  obtain ⟨n, hn, rfl⟩ := List.mem_map.mp hc
  have := h n hn
  exact ⟨by omega, by omega⟩
theorem nat_free {pw : List (Nat × Nat)} {cs : List Nat} (h : ∀ x ∈ pw, ∃ c ∈ cs, ¬ x.1 ∣ c) : Free pw (intsN cs) := by
  intro x hx
  obtain ⟨n, hn, nd⟩ := h x hx
  exact ⟨(n : Int), List.mem_map_of_mem hn, fun z => nd (Int.natCast_dvd_natCast.mp z)⟩
section
variable {P : Program} {w : World} {K : PySem.W.Frag} {mg : Str → Option Value} {base : Heap}
def sp_law (K : PySem.W.Frag) : Sp := fun vs H Q _ => ∃ (a : Addr) (ns : List Int), vs = [.ref a] ∧ SqL K H a (ns.map V.int) ∧ ns.length ≤ 63 ∧ ∀ H', Q (.bl true) H'
theorem ok_law (T : Txt K mg) : GFn P w K mg base 7 T.a_law T.d_law ["_law_script"] (sp_law K) := by
  refine gfn_of T.F_law sc_law (fun vs H Q E h => ?_) (fun cdv A outer s H vs Q E hq hr h => ?_)
  · obtain ⟨a, ns, rfl, _⟩ := h
    rfl
  obtain ⟨a, ns, rfl, hs, h63, q⟩ := h
  refine ⟨_, pss_cons (ps_set (i := 1) sc_law.nd rfl (Or.inr rfl) (cl__law_deck T (hr.mono (by decide)) (pa_cons (pv 0) pa_nil)))
    (pss_cons (ps_asg (pe_tup (pa_cons (cl__law_powers T (hr.mono (by decide)) (pa_cons (pv 1) (pa_cons (cl__law_pick T (hr.mono (by decide)) (pa_cons (pv 1) (pa_cons (pe_lst (pa_cons (pe_op op_pow pe_int pe_int) (pa_cons (pe_op op_pow pe_int pe_int) (pa_cons (pe_op op_pow pe_int pe_int) pa_nil)))) pa_nil))) (pa_cons pe_int pa_nil)))) (pa_cons (pe_op op_add pe_int (cl__law_draw T (hr.mono (by decide)) (pa_cons (pv 1) (pa_cons pe_int pa_nil)))) pa_nil))) (pg_tup (by rfl) (pgs_cons (pg_name (i := 2) sc_law.nd rfl (Or.inr rfl)) (pgs_cons (pg_name (i := 3) sc_law.nd rfl (Or.inl rfl)) pgs_nil))))
    (pss_cons (ps_set (i := 4) sc_law.nd rfl (Or.inr rfl) (cl__law_product T (hr.mono (by decide)) (pa_cons (pe_lc (own := [("_law_p", 14), ("_law_q", 15)]) (g := gTup K 2 (gCons (gName 14) (gCons (gName 15) gNil))) rfl sc_law.nd (pi_listK (K := K) (pv 2)) (blkOk_by (N := N_law) (sc := defScope s_law) (by decide +kernel)) (fun _ _ _ _ _ => (pg_tup (by rfl) (pgs_cons (pg_name (i := 14) sc_law.nd rfl (Or.inl rfl)) (pgs_cons (pg_name (i := 15) sc_law.nd rfl (Or.inl rfl)) pgs_nil)))) (fun _ _ _ _ _ => pts_nil) (fun _ _ _ _ _ => (pv 15))) pa_nil)))
    (pss_cons (ps_set (i := 5) sc_law.nd rfl (Or.inl rfl) (cl__law_pick T (hr.mono (by decide)) (pa_cons (pv 1) (pa_cons (pe_lst (pa_cons pe_int (pa_cons (pe_op op_sub (pv 4) pe_int) (pa_cons (cl__law_great T (hr.mono (by decide)) (pa_cons (pv 1) (pa_cons (pv 4) pa_nil))) (pa_cons (cl__law_great T (hr.mono (by decide)) (pa_cons (pv 1) (pa_cons (pv 4) pa_nil))) pa_nil))))) pa_nil))))
    (pss_cons (ps_set (i := 6) sc_law.nd rfl (Or.inr rfl) (pe_tup (pa_cons (pv 4) (pa_cons (cl__law_numbers T (hr.mono (by decide)) (pa_cons (pv 1) (pa_cons (pv 2) (pa_cons (pv 4) (pa_cons (pv 3) pa_nil))))) (pa_cons (pv 5) pa_nil)))))
    (pss_cons (ps_set (i := 7) sc_law.nd rfl (Or.inl rfl) (pe_tup (pa_cons (pv 4) (pa_cons (cl__law_numbers T (hr.mono (by decide)) (pa_cons (pv 1) (pa_cons (pv 2) (pa_cons (pv 4) (pa_cons (pv 3) pa_nil))))) (pa_cons (cl__law_great T (hr.mono (by decide)) (pa_cons (pv 1) (pa_cons (pv 4) pa_nil))) pa_nil)))))
    (pss_cons (ps_if (PW.pt (pw_or (pt_not (pt_val (cl__law_is_made_normal T hq (hr.mono (by decide)) (pa_cons (pv 2) (pa_cons (pv 6) pa_nil))))) (pw_or1 (pt_not (pt_val (cl__law_is_made_normal T hq (hr.mono (by decide)) (pa_cons (pv 2) (pa_cons (pv 7) pa_nil)))))))) (pss_one (ps_ret pe_bl)) pss_nil)
    (Evl.pss_cut (ps_set (i := 8) sc_law.nd rfl (Or.inl rfl) (pe_op op_cat (pe_lst (pa_cons (pv 6) (pa_cons (cl__law_by T (hr.mono (by decide)) (pa_cons (pv 6) (pa_cons (pe_op op_sub (pv 4) pe_int) pa_nil))) (pa_cons (cl_normal_stripe T (hr.mono (by decide)) (pa_cons (pv 6) pa_nil)) pa_nil)))) (pe_lc (own := [("_law_turn", 10)]) rfl sc_law.nd (pi_range1 (by rfl) T.n_range (pa_cons pe_int pa_nil)) (blkOk_by (N := N_law) (sc := defScope s_law) (by decide +kernel)) (fun _ _ _ _ _ => (pg_name (i := 10) sc_law.nd rfl (Or.inl rfl))) (fun _ _ _ _ _ => pts_nil) (fun _ _ _ _ _ => (cl__law_by T (hr.mono (by decide)) (pa_cons (pv 6) (pa_cons (cl__law_unit T (hr.mono (by decide)) (pa_cons (pv 1) (pa_cons (pv 2) (pa_cons (pv 4) pa_nil)))) pa_nil)))))))
    (Evl.pss_cut (ps_for PassesOwn.never rfl (pi_listK (K := K) (pv 8)) (pg_name (i := 9) sc_law.nd rfl (Or.inl rfl)) (pss_one (ps_if (pt_not (pt_val (cl__law_is_made_normal T hq (hr.mono (by decide)) (pa_cons (pv 2) (pa_cons (pv 9) pa_nil))))) (pss_one (ps_ret pe_bl)) pss_nil)))
    (Evl.pss_cut (ps_for PassesOwn.never rfl (pi_listK (K := K) (pv 8)) (pg_name (i := 9) sc_law.nd rfl (Or.inl rfl)) (pss_one (ps_if (pt_not (pt_val (cl__law_is_due T hq (hr.mono (by decide)) (pa_cons (pv 6) (pa_cons (pv 9) (pa_cons pe_bl pa_nil)))))) (pss_one (ps_ret pe_bl)) pss_nil)))
    (Evl.pss_cut (ps_for PassesOwn.never rfl (pi_range1 (by rfl) T.n_range (pa_cons pe_int pa_nil)) (pg_name (i := 10) sc_law.nd rfl (Or.inl rfl)) (pss_cons (ps_set (i := 11) sc_law.nd rfl (Or.inl rfl) (cl__law_pick T (hr.mono (by decide)) (pa_cons (pv 1) (pa_cons (pv 8) pa_nil))))
        (Evl.pss_cut (ps_set (i := 12) sc_law.nd rfl (Or.inl rfl) (pe_ifExp (pt_cmpR op_eq (pv 10) pe_int (nomark _)) (pv 7) (cl__law_changed T (hr.mono (by decide)) (pa_cons (pv 1) (pa_cons (pv 2) (pa_cons (pv 11) pa_nil))))))
        (pss_one (ps_if (pt_not (pt_val (cl__law_are_none T (hr.mono (by decide)) (pa_cons (pv 2) (pa_cons (pv 12) pa_nil))))) (pss_cons (ps_set (i := 13) sc_law.nd rfl (Or.inl rfl) (cl__law_are_multiples T (hr.mono (by decide)) (pa_cons (pv 4) (pa_cons (cl__law_row T (hr.mono (by decide)) (pa_cons (pv 11) pa_nil)) (pa_cons (cl__law_row T (hr.mono (by decide)) (pa_cons (pv 12) pa_nil)) pa_nil)))))
            (pss_one (ps_if (PW.pt (pw_or (pt_not (pt_val (cl__law_is_made_normal T hq (hr.mono (by decide)) (pa_cons (pv 2) (pa_cons (pv 12) pa_nil))))) (pw_or1 (pt_not (pt_val (cl__law_is_due T hq (hr.mono (by decide)) (pa_cons (pv 11) (pa_cons (pv 12) (pa_cons (pv 13) pa_nil))))))))) (pss_one (ps_ret pe_bl)) pss_nil))) pss_nil)))))
    (Evl.pss_cut (ps_for PassesOwn.never rfl (pi_listK (K := K) (pv 2)) (pg_tup (by rfl) (pgs_cons (pg_name (i := 14) sc_law.nd rfl (Or.inl rfl)) (pgs_cons (pg_name (i := 15) sc_law.nd rfl (Or.inl rfl)) pgs_nil))) (pss_one (ps_for PassesOwn.never rfl (pi_tupK (K := K) (pe_tup (pa_cons (pe_op op_fdivW (pv 4) (pv 14)) (pa_cons (pe_op op_fdivW (pv 4) (pv 15)) pa_nil)))) (pg_name (i := 16) sc_law.nd rfl (Or.inr rfl)) (pss_one (ps_if (pt_not (pt_val (cl__law_is_due T hq (hr.mono (by decide)) (pa_cons (pv 6) (pa_cons (pe_tup (pa_cons (pv 16) (pa_cons (pe_callTy (call_tupleK (K := K)) (by rfl) T.n_tuple (by decide +kernel) (pa_cons (pe_lc (own := [("_law_a", 18)]) rfl sc_law.nd (pi_tupK (K := K) (pe_ix (ix_tupK (K := K)) (pv 6) pe_int (fun _ _ => rfl))) (blkOk_by (N := N_law) (sc := defScope s_law) (by decide +kernel)) (fun _ _ _ _ _ => (pg_name (i := 18) sc_law.nd rfl (Or.inl rfl))) (fun _ _ _ _ _ => pts_nil) (fun _ _ _ _ _ => (pe_op op_mod (pe_callTy call_int1 (by rfl) T.n_int (by decide +kernel) (pa_cons (pv 18) pa_nil)) (pv 16)))) pa_nil)) (pa_cons (pe_op op_mod (pe_callTy call_int1 (by rfl) T.n_int (by decide +kernel) (pa_cons (pv 5) pa_nil)) (pv 16)) pa_nil)))) (pa_cons pe_bl pa_nil)))))) (pss_one (ps_ret pe_bl)) pss_nil)))))
    (Evl.pss_cut (ps_set (i := 17) sc_law.nd rfl (Or.inl rfl) (pe_ifExp (pt_cmpR op_lt (pv 3) pe_int (nomark _)) (pe_tup (pa_cons (pv 4) (pa_cons (pe_op (op_catAK (K := K)) (pe_ix (ix_tupK (K := K)) (pv 6) pe_int (fun _ _ => rfl)) (pe_tup (pa_cons (cl__law_great T (hr.mono (by decide)) (pa_cons (pv 1) (pa_cons (pv 4) pa_nil))) pa_nil))) (pa_cons (pv 5) pa_nil)))) (pe_tup (pa_cons (pv 4) (pa_cons (pe_tup (pa_cons (pe_ifExp (pt_cmpR op_gt (pv 4) pe_int (nomark _)) pe_int pe_int) pa_nil)) (pa_cons pe_int pa_nil))))))
    (pss_one (ps_ret (cl__law_is_due T hq (hr.mono (by decide)) (pa_cons (pv 6) (pa_cons (pv 17) (pa_cons pe_bl pa_nil)))))))))))))))))), ?_⟩
  have small : ∀ n : Nat, n < 100 → Bd 2000 (n : Int) := fun n h => bdN (n := n) (by omega) (by omega) (Nat.lt_of_lt_of_le h (by decide))
  refine ⟨_, rfl, a, ns, rfl, hs, h63, fun d l H1 s1 nd nl hD => ?_⟩
  clear s1 nd nl hs
  -- powers, breadth
  refine ⟨_, rfl, _, rfl, _, _, rfl, rfl, ⟨by decide, by decide, by decide⟩, _, _, rfl, rfl, ⟨by decide, by decide, by decide⟩, _, _, rfl, rfl, ⟨by decide, by decide, by decide⟩, (by show 3 ≤ sizeLine; decide), fun L nL => ?_⟩
  refine ⟨d, l, L, _, rfl, hD.same (same_new nL _), SqL.of upd_same, hD.off nL, by show 1 ≤ 3; decide, by show 3 ≤ 1000; decide, fun v H2 hv st2 => ?_⟩
  obtain ⟨B, B1, B2, rfl⟩ : ∃ B : Nat, 1 < B ∧ B ≤ 10 ^ 40 ∧ v = .int (B : Int) := by
    simp only [List.mem_cons, List.not_mem_nil, or_false] at hv
    rcases hv with rfl | rfl | rfl
    · exact ⟨10 ^ 2, by decide, by decide, congrArg V.int (by decide +kernel)⟩
    · exact ⟨10 ^ 6, by decide, by decide, congrArg V.int (by decide +kernel)⟩
    · exact ⟨10 ^ 40, by decide, by decide, congrArg V.int (by decide +kernel)⟩
  refine ⟨d, l, _, rfl, ⟨B, B1, B2, rfl⟩, st2.post, fun pa pw H3 st3 npl hP hA => ?_⟩
  refine ⟨_, rfl, d, l, 3, rfl, st3.post, by decide, small 3 (by decide), fun v H4 v0 v1 st4 => ?_⟩
  refine ⟨_, _, rfl, rfl, (by show 2 ≤ sizeLine; decide), fun tt ntt => ?_⟩
  obtain ⟨dd, hdd⟩ : ∃ n : Nat, 1 + v = (n : Int) := ⟨(1 + v).toNat, by omega⟩
  have d1 : 1 ≤ dd := by omega
  have d3 : dd ≤ 3 := by omega
  dsimp only
  rw [hdd]
  clear hdd v0 v1 v
  have hA5 := (hA.stp st4 npl).same (same_new ntt (.tup [.ref pa, .int (dd : Int)]))
  have hD5 := st4.post.same (same_new ntt (.tup [.ref pa, .int (dd : Int)]))
  have ht5 : SqT K (upd H4 tt (.tup [.ref pa, .int (dd : Int)])) tt [.ref pa, .int (dd : Int)] := SqT.of upd_same
  generalize upd H4 tt (.tup [.ref pa, .int (dd : Int)]) = H5 at hA5 hD5 ht5
  refine ⟨tt, _, rfl, ht5, rfl, _, _, rfl, _, _, rfl, rfl, ?_⟩
  clear ht5 ntt st4 hA st3 st2 nL hv hD B1 B2
  have hw := hP.ok
  have hm := mOf_pos hP.ok
  have hlt := hP.lt
  have m0 : (0 : Int) < ((mOf pw : Nat) : Int) := by omega
  have bm : Bd 133 ((mOf pw : Nat) : Int) := by
    unfold Bd
    have : (10 : Nat) ^ 40 < 2 ^ 133 := by decide
    omega
  -- the period
  obtain ⟨as, has, hl, hi⟩ := hA5.ex
  have plen := pw_len hP.ok
  refine ⟨_, rfl, pa, rfl, ⟨_, has⟩, fun D nD => lc_list (xs := as.map V.ref) (Lc H5 D fun i => (intsN ((pw.map qOf).take i)).map V.int) (lc_start nD rfl) (fun i H' _ h => h.1.seq has) (fun i v H' hx h => ?_) (fun H' h => ?_)⟩
  · obtain ⟨t, x, ht, hxp, rfl, hilt⟩ := pairs_at hl hx
    have hqq : (pw.map qOf)[i]? = some (qOf x) := by rw [List.getElem?_map, hxp]; rfl
    refine ⟨t, _, rfl, h.1.sqt (hi i t x ht hxp), rfl, _, _, rfl, _, _, rfl, rfl, rfl, yes_ (iteT ?_)⟩
    refine ⟨_, rfl, lc_leaf nD h.1 h.2 ?_ ?_⟩
    · simp only [List.length_map, List.length_take]
      omega
    · rw [List.take_add_one, hqq]
      simp [intsN]
  obtain ⟨s6, e6⟩ := lc_done h (ys := (intsN (pw.map qOf)).map V.int) (by
    show (intsN ((pw.map qOf).take (as.map V.ref).length)).map V.int = _
    rw [List.take_of_length_le (by simp [hl])])
  have pe := prodI_mOf pw
  refine ⟨D, pw.map qOf, rfl, SqL.of e6, ?_, by rw [pe]; exact Nat.lt_trans hlt (by decide), ?_⟩
  · intro n hn
    obtain ⟨x, hx, rfl⟩ := List.mem_map.mp hn
    exact (qOf_le hP.ok hx).1
  rw [pe]
  have hA6 := hA5.same s6
  have hD6 := hD5.same s6
  clear h pe e6 s6 has hi hl as nD D hA5 hD5
  clear H1 H2 H3 H4 H5
  -- r
  refine ⟨_, rfl, _, rfl, _, _, rfl, rfl, _, rfl, _, rfl, d, l, _, rfl, hD6, by omega, bm.mono (by decide), fun g1 H7 g10 g11 st7 => ?_⟩
  refine ⟨_, rfl, _, rfl, d, l, _, rfl, st7.post, by omega, bm.mono (by decide), fun g2 H8 g20 g21 st8 => ?_⟩
  have st78 := st7.trans st8
  refine ⟨(by show 4 ≤ sizeLine; decide), fun L nL => ?_⟩
  refine ⟨d, l, L, _, rfl, st78.post.same (same_new nL _), SqL.of upd_same, st78.post.off nL, by show 1 ≤ 4; decide, by show 4 ≤ 1000; decide, fun v H9 hv st9 => ?_⟩
  obtain ⟨r, r0, rfl⟩ : ∃ r : Int, (0 ≤ r ∧ r < ((mOf pw : Nat) : Int)) ∧ v = .int r := by
    simp only [List.mem_cons, List.not_mem_nil, or_false] at hv
    rcases hv with rfl | rfl | rfl | rfl
    · exact ⟨0, ⟨by omega, by omega⟩, rfl⟩
    · exact ⟨((mOf pw : Nat) : Int) - 1, ⟨by omega, by omega⟩, rfl⟩
    · exact ⟨g1, ⟨g10, g11⟩, rfl⟩
    · exact ⟨g2, ⟨g20, g21⟩, rfl⟩
  have st9' := (st78.same (same_new nL _)).trans st9
  have hA9 := hA6.stp st9' npl
  have hD9 := st9'.post
  clear hv st9 st9' st78 st7 st8 nL hA6 hD6 g10 g11 g20 g21 g1 g2
  -- one
  refine ⟨_, rfl, _, rfl, _, rfl, _, rfl, _, rfl, d, l, pa, pw, dd, rfl, hD9, hP, hA9, npl, d1, d3, fun pc csN H10 st10 hc clen clt cok => ?_⟩
  have c0 := nat_ints clt
  have cf := nat_free cok
  have cl : (intsN csN).length = dd := by simp [clen]
  generalize intsN csN = cs at hc c0 cf cl
  have hO : SOk pw cs r := SOk.mk2 hP.per (by omega) (by omega) c0 cf r0
  refine ⟨_, rfl, (by show 3 ≤ sizeLine; decide), fun o no => ?_⟩
  have s11 := same_new no (.tup [.int ((mOf pw : Nat) : Int), .ref pc, .int r])
  have h11 : SAt K (upd H10 o (.tup [.int ((mOf pw : Nat) : Int), .ref pc, .int r])) o (mOf pw) cs r := ⟨pc, SqT.of upd_same, s11.sqt hc⟩
  have st11 := st10.same s11
  generalize upd H10 o (.tup [.int ((mOf pw : Nat) : Int), .ref pc, .int r]) = H11 at h11 st11
  have hA11 := hA9.stp st11 npl
  have hD11 := st11.post
  clear st10 st11 s11 no hc hA9 hD9 clen clt cok
  -- two
  refine ⟨_, rfl, _, rfl, _, rfl, _, rfl, _, rfl, d, l, pa, pw, dd, rfl, hD11, hP, hA11, npl, d1, d3, fun pc2 dsN H12 st12 hc2 dlen dlt dok => ?_⟩
  have d0 := nat_ints dlt
  have df := nat_free dok
  have dl : (intsN dsN).length = dd := by simp [dlen]
  generalize intsN dsN = ds at hc2 d0 df dl
  refine ⟨_, rfl, _, rfl, d, l, _, rfl, st12.post, by omega, bm.mono (by decide), fun s H13 s0 s1 st13 => ?_⟩
  have hO2 : SOk pw ds s := SOk.mk2 hP.per (by omega) (by omega) d0 df ⟨s0, s1⟩
  refine ⟨(by show 3 ≤ sizeLine; decide), fun t nt => ?_⟩
  have s14 := same_new nt (.tup [.int ((mOf pw : Nat) : Int), .ref pc2, .int s])
  have h14 : SAt K (upd H13 t (.tup [.int ((mOf pw : Nat) : Int), .ref pc2, .int s])) t (mOf pw) ds s := ⟨pc2, SqT.of upd_same, s14.sqt (st13.sqt hc2)⟩
  have st14 := (st12.trans st13).same s14
  generalize upd H13 t (.tup [.int ((mOf pw : Nat) : Int), .ref pc2, .int s]) = H14 at h14 st14
  have S : Sk K H14 d l pa o t pw cs r ds s := ⟨st14.post, hA11.stp st14 npl, h11.stp st14, h14⟩
  clear h14 st14 s14 nt st13 st12 hc2 h11 hA11 hD11 dlen dlt dok s0 s1
  clear H7 H8 H9 H10 H11 H12 H13 H'
  -- both are made normal
  refine ⟨_, rfl, _, rfl, pa, o, pw, cs, r, rfl, hlt, S.pws, S.one, hO, fun H15 s15 => ⟨true, rfl, iteF ?_⟩⟩
  have S := S.same npl s15
  refine ⟨_, rfl, _, rfl, pa, t, pw, ds, s, rfl, hlt, S.pws, S.two, hO2, fun H16 s16 => ⟨true, rfl, iteF ?_⟩⟩
  have S := S.same npl s16
  have hf := hO.fr
  have l3 := hO.l3
  have rb := hO.rbd
  have cb := hO.bd
  have bm2 : Bd 2000 ((mOf pw : Nat) : Int) := bm.mono (by decide)
  -- the ways
  refine ⟨fun σ H' => ∃ (L : Addr) (vs : List V), σ = [some (.ref a), some (.ref d), some (.ref pa), some (.int (dd : Int)), some (.int ((mOf pw : Nat) : Int)), some (.int r), some (.ref o), some (.ref t), some (.ref L), none, none, none, none, none, none, none, none, none, none] ∧
    Sk K H' d l pa o t pw cs r ds s ∧ Ws K H' L pw cs r vs ∧ L ≠ l ∧ 1 ≤ vs.length ∧ vs.length ≤ 10, ?_, ?_⟩
  · refine ⟨_, rfl, _, rfl, _, rfl, _, _, rfl, rfl, o, mOf pw, cs, r, _, rfl, S.one, hm, l3, cb, rb, by unfold Bd at *; omega, fun p1 H17 s17 hp1 => ?_⟩
    have S17 := S.same npl s17
    refine ⟨_, rfl, o, pw, cs, r, rfl, S17.one, hO, fun p2 H18 s18 _ hp2 => ?_⟩
    have S18 := S17.same npl s18
    have w1 : Way K H18 pw cs r (.ref o) := ⟨o, cs, r, rfl, S18.one, hO, rfl, rfl, rfl⟩
    have w2 : Way K H18 pw cs r (.ref p1) := ⟨p1, _, _, rfl, hp1.mono s18, hO.mul (unit_less hw), mulM_len _ _ _, (nf_mul hw hf r (unit_less hw)).1, (nf_mul hw hf r (unit_less hw)).2⟩
    have w3 : Way K H18 pw cs r (.ref p2) := ⟨p2, _, _, rfl, hp2, hO.nf, nfC_len _ _, (nf_idem hw hf r).1, (nf_idem hw hf r).2⟩
    refine ⟨(by show 3 ≤ sizeLine; decide), fun L1 nL1 => ?_⟩
    have s19 := same_new nL1 (.lst [.ref o, .ref p1, .ref p2])
    have e19 : (upd H18 L1 (.lst [.ref o, .ref p1, .ref p2])) L1 = some (.lst [.ref o, .ref p1, .ref p2]) := upd_same
    have off1 := S18.deck.off nL1
    generalize upd H18 L1 (.lst [.ref o, .ref p1, .ref p2]) = H19 at s19 e19
    have S19 := S18.same npl s19
    have w0 : ∀ v ∈ [V.ref o, .ref p1, .ref p2], Way K H19 pw cs r v := by
      intro v hv
      simp only [List.mem_cons, List.not_mem_nil, or_false] at hv
      rcases hv with rfl | rfl | rfl
      · exact w1.same s19
      · exact w2.same s19
      · exact w3.same s19
    refine ⟨2, rfl, by decide, by decide, fun D nD => lc_range (lo := 0) (n := 2) (fun i H' => Stp d l H19 H' ∧ ∃ ps : List V, ps.length = i ∧ H' D = some (.lst ps) ∧ ∀ v ∈ ps, Way K H' pw cs r v) ⟨S19.deck.refl.upd nD, [], rfl, upd_same, fun _ h => absurd h List.not_mem_nil⟩ (fun i H' hi h => ?_) (fun H' h => ?_)⟩
    · obtain ⟨st, ps, pl, pe, pwy⟩ := h
      have S20 := S19.stp npl st
      refine ⟨rfl, yes_ (iteT ?_)⟩
      refine ⟨_, rfl, _, rfl, _, rfl, _, rfl, d, l, pa, pw, rfl, S20.deck, hP, S20.pws, npl, fun u H21 hu bu st21 => ?_⟩
      have S21 := S20.stp npl st21
      have nu : ∀ x ∈ pw, ¬ (x.1 : Int) ∣ (u : Int) := fun x hx z => hu x hx (Int.natCast_dvd_natCast.mp z)
      refine ⟨o, mOf pw, cs, r, (u : Int), rfl, S21.one, hm, l3, cb, rb, bu.mono (by decide), fun p H22 s22 hp => ?_⟩
      have stt := (st.trans st21).same s22
      have offD := S19.deck.off nD
      have e22 := s22 _ _ (st21.lst offD pe)
      refine ⟨_, e22, ?_, stt.upd nD, ps ++ [.ref p], by simp [pl], upd_same, fun v hv => ?_⟩
      · rw [pl]
        exact Nat.lt_of_lt_of_le (show i < 3 by omega) (by decide)
      · have sx : ∀ {a : Addr} {m : Nat} {cs : List Int} {r : Int}, SAt K H22 a m cs r → SAt K (upd H22 D (.lst (ps ++ [.ref p]))) a m cs r := by
          intro a m cs r h
          obtain ⟨c, h1, h2⟩ := h.at_
          exact ⟨c, sqt_updL e22 h1, sqt_updL e22 h2⟩
        rcases List.mem_append.mp hv with k | k
        · obtain ⟨a, ds, s, e, h1, h2⟩ := ((pwy v k).stp (st21.same s22)).ex
          exact ⟨a, ds, s, e, sx h1, h2⟩
        · rw [List.mem_singleton.mp k]
          exact ⟨p, _, _, rfl, sx hp, hO.mul nu, mulM_len _ _ _, (nf_mul hw hf r nu).1, (nf_mul hw hf r nu).2⟩
    · obtain ⟨st, ps, pl, pe, pwy⟩ := h
      have S20 := S19.stp npl st
      refine ⟨_, _, _, _, rfl, rfl, st.lst off1 e19, pe, ?_, fun L nL => ?_⟩
      · rw [pl]
        show 3 + 2 ≤ sizeLine
        decide
      · have s23 := same_new nL (.lst ([V.ref o, .ref p1, .ref p2] ++ ps))
        refine ⟨L, [V.ref o, .ref p1, .ref p2] ++ ps, rfl, S20.same npl s23, ⟨upd_same, fun v hv => ?_⟩, S20.deck.off nL, by simp, by rw [List.length_append, pl]; show 3 + 2 ≤ 10; decide⟩
        rcases List.mem_append.mp hv with k | k
        · exact ((w0 v k).stp st).same s23
        · exact (pwy v k).same s23
  rintro σ H1 ⟨L, vs, rfl, S, W, nLl, v1, v10⟩
  -- all of them are made normal
  refine ⟨fun σ H' => ∃ x9 : Option V, σ = [some (.ref a), some (.ref d), some (.ref pa), some (.int (dd : Int)), some (.int ((mOf pw : Nat) : Int)), some (.int r), some (.ref o), some (.ref t), some (.ref L), x9, none, none, none, none, none, none, none, none, none] ∧ Same H1 H', ?_, ?_⟩
  · refine ⟨_, rfl, L, rfl, ⟨_, SqL.of W.at_⟩, for_list (xs := vs) (fun i σ H' => ∃ x9 : Option V, σ = [some (.ref a), some (.ref d), some (.ref pa), some (.int (dd : Int)), some (.int ((mOf pw : Nat) : Int)), some (.int r), some (.ref o), some (.ref t), some (.ref L), x9, none, none, none, none, none, none, none, none, none] ∧ Same H1 H') ⟨none, rfl, Same.refl _⟩ ?_ ?_ ?_⟩
    · rintro i σ H' _ ⟨x9, rfl, s1⟩
      exact SqL.of (s1 _ _ W.at_)
    · rintro i v σ H' hv ⟨x9, rfl, s1⟩
      obtain ⟨b, es, z, rfl, h1, h2, _⟩ := ((W.all v (List.mem_of_getElem? hv)).same s1).ex
      refine ⟨_, rfl, _, rfl, pa, b, pw, es, z, rfl, hlt, (S.same npl s1).pws, h1, h2, fun H2 s2 => ⟨true, rfl, iteF ?_⟩⟩
      exact ⟨_, rfl, s1.trans s2⟩
    · rintro σ H' ⟨x9, rfl, s1⟩
      exact ⟨x9, rfl, s1⟩
  rintro σ H2 ⟨x9, rfl, s2⟩
  have S := S.same npl s2
  have W := W.same s2
  clear s2
  -- all of them are told to be the same
  refine ⟨fun σ H' => ∃ x9 : Option V, σ = [some (.ref a), some (.ref d), some (.ref pa), some (.int (dd : Int)), some (.int ((mOf pw : Nat) : Int)), some (.int r), some (.ref o), some (.ref t), some (.ref L), x9, none, none, none, none, none, none, none, none, none] ∧ Same H2 H', ?_, ?_⟩
  · refine ⟨_, rfl, L, rfl, ⟨_, SqL.of W.at_⟩, for_list (xs := vs) (fun i σ H' => ∃ x9 : Option V, σ = [some (.ref a), some (.ref d), some (.ref pa), some (.int (dd : Int)), some (.int ((mOf pw : Nat) : Int)), some (.int r), some (.ref o), some (.ref t), some (.ref L), x9, none, none, none, none, none, none, none, none, none] ∧ Same H2 H') ⟨x9, rfl, Same.refl _⟩ ?_ ?_ ?_⟩
    · rintro i σ H' _ ⟨x9, rfl, s1⟩
      exact SqL.of (s1 _ _ W.at_)
    · rintro i v σ H' hv ⟨x9, rfl, s1⟩
      obtain ⟨b, es, z, rfl, h1, h2, h3, h4, h5⟩ := ((W.all v (List.mem_of_getElem? hv)).same s1).ex
      refine ⟨_, rfl, _, rfl, o, b, pw, pw, cs, es, r, z, true, rfl, (S.same npl s1).one, hO, h1, h2, ⟨fun _ => ⟨rfl, h4.symm, h5.symm⟩, fun _ => rfl⟩, fun H2 s2 => ⟨true, rfl, iteF ?_⟩⟩
      exact ⟨_, rfl, s1.trans s2⟩
    · rintro σ H' ⟨x9, rfl, s1⟩
      exact ⟨x9, rfl, s1⟩
  rintro σ H3 ⟨x9, rfl, s3⟩
  have S := S.same npl s3
  have W := W.same s3
  clear s3
  -- near ones
  refine ⟨fun σ H' => ∃ x10 x11 x12 x13 : Option V, σ = [some (.ref a), some (.ref d), some (.ref pa), some (.int (dd : Int)), some (.int ((mOf pw : Nat) : Int)), some (.int r), some (.ref o), some (.ref t), some (.ref L), x9, x10, x11, x12, x13, none, none, none, none, none] ∧ Sk K H' d l pa o t pw cs r ds s, ?_, ?_⟩
  · refine ⟨6, rfl, by decide, by decide, for_range (lo := 0) (n := 6) (fun i σ H' => ∃ x10 x11 x12 x13 : Option V, σ = [some (.ref a), some (.ref d), some (.ref pa), some (.int (dd : Int)), some (.int ((mOf pw : Nat) : Int)), some (.int r), some (.ref o), some (.ref t), some (.ref L), x9, x10, x11, x12, x13, none, none, none, none, none] ∧ Sk K H' d l pa o t pw cs r ds s ∧ Ws K H' L pw cs r vs) ⟨none, none, none, none, rfl, S, W⟩ ?_ ?_⟩
    · rintro i σ H4 _ ⟨x10, x11, x12, x13, rfl, S, W⟩
      refine ⟨_, rfl, _, rfl, d, l, L, vs, rfl, S.deck, SqL.of W.at_, nLl, v1, by omega, fun v H5 hv st5 => ?_⟩
      have S := S.stp npl st5
      have W := W.stp nLl st5
      obtain ⟨b, es, z, rfl, h1, h2, h3, h4, h5⟩ := (W.all v hv).ex
      have e3 := h2.l3
      refine ⟨fun σ H' => ∃ (p : Addr) (fs : List Int) (y : Int), σ = [some (.ref a), some (.ref d), some (.ref pa), some (.int (dd : Int)), some (.int ((mOf pw : Nat) : Int)), some (.int r), some (.ref o), some (.ref t), some (.ref L), x9, some (.int (0 + (i : Int))), some (.ref b), some (.ref p), x13, none, none, none, none, none] ∧ Stp d l H5 H' ∧
        SAt K H' p (mOf pw) fs y ∧ fs.length = cs.length ∧ (∀ c ∈ fs, 0 ≤ c ∧ c < (mOf pw : Nat)) ∧ 0 ≤ y ∧ y < (mOf pw : Nat), ?_, ?_⟩
      · refine ⟨_, rfl, rfl, _, rfl, ite2 (fun _ => ?_) (fun _ => ?_)⟩
        · exact ⟨_, rfl, t, ds, s, rfl, S.deck.refl, S.two, by omega, d0, hO2.r0.1, hO2.r0.2⟩
        · refine ⟨_, rfl, _, rfl, _, rfl, d, l, pa, b, pw, es, z, rfl, S.deck, hP, S.pws, npl, h1, h2, fun p fs y H6 st6 hp fl fb y0 y1 => ?_⟩
          exact ⟨p, fs, y, rfl, st6, hp, by omega, fb, y0, y1⟩
      rintro σ H6 ⟨p, fs, y, rfl, st6, hp, fl, fb, y0, y1⟩
      have S := S.stp npl st6
      have W := W.stp nLl st6
      have h1 := h1.stp st6
      refine ⟨_, rfl, _, rfl, pa, p, pw, mOf pw, fs, y, rfl, hw, S.pws, hp, by omega, fun v H7 s7 iff => ?_⟩
      have S := S.same npl s7
      have W := W.same s7
      have h1 := h1.mono s7
      have hp := hp.mono s7
      cases v with
      | true => exact ⟨true, rfl, iteF ⟨_, _, _, _, rfl, S, W⟩⟩
      | false =>
        refine ⟨false, rfl, iteT ?_⟩
        have ff : Free pw fs := Classical.byContradiction fun z => Bool.noConfusion (iff.mpr z)
        have hO3 : SOk pw fs y := SOk.mk2 hP.per (by omega) (by omega) fb ff ⟨y0, y1⟩
        refine ⟨_, rfl, _, rfl, b, _, es, z, rfl, h1, e3, fun p1 H8 s8 k1 => ?_⟩
        refine ⟨_, rfl, p, _, fs, y, rfl, hp.mono s8, by omega, fun p2 H9 s9 k2 => ?_⟩
        refine ⟨p1, p2, mOf pw, _, _, rfl, hm, s9.sqt k1, k2, by simp; omega, by simp; omega, fun x hx => ?_, fun x hx => ?_, fun v H10 s10 iff2 => ?_⟩
        · rcases List.mem_append.mp hx with k | k
          · exact h2.bd x k
          · rw [List.mem_singleton.mp k]
            exact h2.rbd
        · rcases List.mem_append.mp hx with k | k
          · exact hO3.bd x k
          · rw [List.mem_singleton.mp k]
            exact hO3.rbd
        have s710 := (s8.trans s9).trans s10
        have S := S.same npl s710
        have W := W.same s710
        have h1 := h1.mono s710
        have hp := hp.mono s710
        refine ⟨_, rfl, _, rfl, pa, p, pw, fs, y, rfl, hlt, S.pws, hp, hO3, fun H11 s11 => ⟨true, rfl, iteF ?_⟩⟩
        have S := S.same npl s11
        have W := W.same s11
        refine ⟨_, rfl, _, rfl, _, rfl, b, p, pw, pw, es, fs, z, y, v, rfl, h1.mono s11, h2, hp.mono s11, hO3, ?_, fun H12 s12 => ⟨true, rfl, iteF ?_⟩⟩
        · rw [iff2, ← nf_iff hw (by omega) h2.fr ff]
          exact ⟨fun h => ⟨rfl, h⟩, fun h => h.2⟩
        · exact ⟨_, _, _, _, rfl, S.same npl s12, W.same s12⟩
    · rintro σ H' ⟨x10, x11, x12, x13, rfl, S, _⟩
      exact ⟨x10, x11, x12, x13, rfl, S⟩
  clear W S
  rintro σ H4 ⟨x10, x11, x12, x13, rfl, S⟩
  -- of a divisor of the period
  refine ⟨fun σ H' => ∃ x14 x15 x16 : Option V, σ = [some (.ref a), some (.ref d), some (.ref pa), some (.int (dd : Int)), some (.int ((mOf pw : Nat) : Int)), some (.int r), some (.ref o), some (.ref t), some (.ref L), x9, x10, x11, x12, x13, x14, x15, x16, none, none] ∧ Sk K H' d l pa o t pw cs r ds s, ?_, ?_⟩
  · obtain ⟨as, has, hl, hi⟩ := S.pws.ex
    refine ⟨_, rfl, pa, rfl, ⟨_, has⟩, for_list (xs := as.map V.ref) (fun i σ H' => ∃ x14 x15 x16 : Option V, σ = [some (.ref a), some (.ref d), some (.ref pa), some (.int (dd : Int)), some (.int ((mOf pw : Nat) : Int)), some (.int r), some (.ref o), some (.ref t), some (.ref L), x9, x10, x11, x12, x13, x14, x15, x16, none, none] ∧ Same H4 H') ⟨none, none, none, rfl, Same.refl _⟩ ?_ ?_ ?_⟩
    · rintro i σ H' _ ⟨_, _, _, rfl, s5⟩
      exact s5.seq has
    · rintro i v σ H5 hv ⟨x14, x15, x16, rfl, s5⟩
      obtain ⟨u, x, hu, hxp, rfl, hilt⟩ := pairs_at hl hv
      have hmem := List.mem_of_getElem? hxp
      have x2 := PN_lt _ (hw.mem hmem)
      have qx := qOf_le hw hmem
      have q2 : 2 ≤ qOf x := by
        have := hw.pos x hmem
        have := Nat.pow_le_pow_right (n := x.1) (by omega) this
        rw [Nat.pow_one] at this
        exact Nat.le_trans x2.1 this
      refine ⟨u, _, rfl, s5.sqt (hi i u x hu hxp), rfl, _, _, rfl, _, _, rfl, rfl, ?_⟩
      refine ⟨_, rfl, _, rfl, _, _, rfl, rfl, Bd.divOk (b := 5) (by omega) (by unfold Bd; omega) (by decide) _, _, rfl, _, rfl, _, _, rfl, rfl, Bd.divOk (b := 133) (by omega) (by unfold Bd at *; omega) (by decide) _, (by show 2 ≤ sizeLine; decide), fun tn ntn => ?_⟩
      have s6 := s5.trans (same_new ntn (.tup [.int (((mOf pw : Nat) : Int) / (x.1 : Int)), .int (((mOf pw : Nat) : Int) / ((qOf x : Nat) : Int))]))
      have e6 : SqT K (upd H5 tn (.tup [.int (((mOf pw : Nat) : Int) / (x.1 : Int)), .int (((mOf pw : Nat) : Int) / ((qOf x : Nat) : Int))])) tn [.int (((mOf pw : Nat) : Int) / (x.1 : Int)), .int (((mOf pw : Nat) : Int) / ((qOf x : Nat) : Int))] := SqT.of upd_same
      generalize upd H5 tn (.tup [.int (((mOf pw : Nat) : Int) / (x.1 : Int)), .int (((mOf pw : Nat) : Int) / ((qOf x : Nat) : Int))]) = H6 at s6 e6
      have pdm : x.1 ∣ mOf pw := (dvd_mOf (hw.mem hmem) hw).mpr (List.mem_map_of_mem hmem)
      have qdm : qOf x ∣ mOf pw := part_dvd_mOf hw hmem
      have quo : ∀ n : Nat, 2 ≤ n → n ∣ mOf pw → mOf pw / n ∣ mOf pw ∧ mOf pw / n < mOf pw := fun n h1 h2 => ⟨Nat.div_dvd_of_dvd h2, Nat.div_lt_self (by omega) (by omega)⟩
      refine ⟨tn, rfl, ⟨_, e6⟩, for_tup (xs := [.int (((mOf pw : Nat) : Int) / (x.1 : Int)), .int (((mOf pw : Nat) : Int) / ((qOf x : Nat) : Int))]) (fun j σ H' => ∃ x16 : Option V, σ = [some (.ref a), some (.ref d), some (.ref pa), some (.int (dd : Int)), some (.int ((mOf pw : Nat) : Int)), some (.int r), some (.ref o), some (.ref t), some (.ref L), x9, x10, x11, x12, x13, some (.int (x.1 : Int)), some (.int ((qOf x : Nat) : Int)), x16, none, none] ∧ Same H6 H') ⟨x16, rfl, Same.refl _⟩ ?_ ?_ ?_⟩
      · rintro j σ H' _ ⟨_, rfl, s7⟩
        exact s7.sqt e6
      · rintro j v σ H7 hv ⟨x16, rfl, s7⟩
        obtain ⟨n, nd, nl, rfl⟩ : ∃ n : Nat, n ∣ mOf pw ∧ n < mOf pw ∧ v = .int (n : Int) := by
          have hv := List.mem_of_getElem? hv
          simp only [List.mem_cons, List.not_mem_nil, or_false] at hv
          rcases hv with rfl | rfl
          · exact ⟨mOf pw / x.1, (quo _ x2.1 pdm).1, (quo _ x2.1 pdm).2, by rw [Int.natCast_ediv]⟩
          · exact ⟨mOf pw / qOf x, (quo _ q2 qdm).1, (quo _ q2 qdm).2, by rw [Int.natCast_ediv]⟩
        obtain ⟨pv, hPv, rfl, hsub⟩ := hP.dvd nd
        have n0 : (0 : Int) < ((mOf pv : Nat) : Int) := by have := mOf_pos hPv.ok; omega
        have S7 := (S.same npl s6).same npl s7
        obtain ⟨pc, ho1, ho2⟩ := S7.one.at_
        refine ⟨_, rfl, _, rfl, _, rfl, o, _, 1, .ref pc, rfl, rfl, ho1, rfl, pc, rfl, ⟨_, ho2⟩, fun D nD => lc_tup (xs := cs.map V.int) (Lc H7 D fun j => ((cs.map fun c => c % ((mOf pv : Nat) : Int)).take j).map V.int) (lc_start nD rfl) (fun _ _ _ h => h.1.sqt ho2) (fun j v H8 hv h => ?_) (fun H8 h => ?_)⟩
        · rw [List.getElem?_map] at hv
          obtain ⟨c, hc, rfl⟩ := Option.map_eq_some_iff.mp hv
          refine ⟨rfl, yes_ (iteT ?_)⟩
          refine ⟨_, rfl, .inl ⟨_, rfl, _, rfl, _, _, rfl, rfl, n0, lc_leaf nD h.1 h.2 (by simp only [List.length_map, List.length_take]; omega) ?_⟩⟩
          rw [List.take_add_one, List.getElem?_map, hc, List.map_append]
          rfl
        · obtain ⟨s8, e8⟩ := lc_done h (ys := (cs.map fun c => c % ((mOf pv : Nat) : Int)).map V.int) (by
            show ((cs.map fun c => c % ((mOf pv : Nat) : Int)).take (cs.map V.int).length).map V.int = _
            rw [List.take_of_length_le (by simp)])
          refine ⟨D, _, rfl, .inl ⟨SqL.of e8, fun w1 nw1 => ?_⟩⟩
          have s9 := s8.trans (same_new nw1 (.tup ((cs.map fun c => c % ((mOf pv : Nat) : Int)).map V.int)))
          refine ⟨_, rfl, .inl ⟨_, rfl, _, rfl, _, _, rfl, rfl, n0, (by show 3 ≤ sizeLine; decide), fun w2 nw2 => ?_⟩⟩
          have sl := same_new nw2 (.tup [.int ((mOf pv : Nat) : Int), .ref w1, .int (r % ((mOf pv : Nat) : Int))])
          have s10 := s9.trans sl
          refine ⟨o, w2, pw, pv, cs, cs.map (fun c => c % ((mOf pv : Nat) : Int)), r, r % ((mOf pv : Nat) : Int), false, rfl, S7.one.mono s10, hO, ⟨w1, SqT.of upd_same, sl.sqt (SqT.of upd_same)⟩, ?_, ⟨fun z => Bool.noConfusion z, fun z => by omega⟩, fun H11 s11 => ⟨true, rfl, iteF ?_⟩⟩
          · refine SOk.mk2 hPv.per (by rw [List.length_map]; omega) (by rw [List.length_map]; omega) (fun c hc => ?_) (free_mod hPv.ok hsub hf) (emodB _ n0)
            obtain ⟨b, _, rfl⟩ := List.mem_map.mp hc
            exact emodB _ n0
          · exact ⟨_, rfl, (s7.trans s10).trans s11⟩
      · rintro σ H7 ⟨x16, rfl, s7⟩
        exact ⟨_, _, _, rfl, s6.trans s7⟩
    · rintro σ H' ⟨x14, x15, x16, rfl, s5⟩
      exact ⟨x14, x15, x16, rfl, S.same npl s5⟩
  clear S
  rintro σ H5 ⟨x14, x15, x16, rfl, S⟩
  -- of another breadth
  refine ⟨fun σ H' => ∃ (p : Addr) (es : List Int) (z : Int), σ = [some (.ref a), some (.ref d), some (.ref pa), some (.int (dd : Int)), some (.int ((mOf pw : Nat) : Int)), some (.int r), some (.ref o), some (.ref t), some (.ref L), x9, x10, x11, x12, x13, x14, x15, x16, some (.ref p), none] ∧ Sk K H' d l pa o t pw cs r ds s ∧
    SAt K H' p (mOf pw) es z ∧ SOk pw es z ∧ es.length ≠ cs.length, ?_, ?_⟩
  · refine ⟨_, rfl, _, _, rfl, rfl, _, rfl, ite2 (fun cc => ?_) (fun cc => ?_)⟩
    · have cc : dd < 3 := by have := of_decide_eq_true cc; omega
      obtain ⟨pc, ho1, ho2⟩ := S.one.at_
      refine ⟨_, rfl, _, rfl, o, _, 1, .ref pc, rfl, rfl, ho1, rfl, _, rfl, _, rfl, d, l, _, rfl, S.deck, by omega, bm.mono (by decide), fun g H6 g0 g1 st6 => ?_⟩
      refine ⟨(by show 1 ≤ sizeLine; decide), fun t1 nt1 => ?_⟩
      have s7 := same_new nt1 (.tup [.int g])
      refine cat_any (s7.sqt (st6.sqt ho2)) (SqT.of upd_same) ?_ fun p H8 s8 hp => ?_
      · simp only [List.length_map, List.length_cons, List.length_nil]
        exact Nat.le_trans (show cs.length + (0 + 1) ≤ 10 by omega) (by decide)
      refine ⟨_, rfl, (by show 3 ≤ sizeLine; decide), fun t2 nt2 => ?_⟩
      have s9 := same_new nt2 (.tup [.int ((mOf pw : Nat) : Int), .ref p, .int r])
      have hp' : SqT K H8 p ((cs ++ [g]).map V.int) := by
        rw [List.map_append]
        exact hp
      refine ⟨t2, cs ++ [g], r, rfl, (S.stp npl st6).same npl ((s7.trans s8).trans s9), ⟨p, SqT.of upd_same, s9.sqt hp'⟩, ?_, by simp⟩
      refine SOk.mk2 hP.per (by simp) (by simp; omega) (fun c hc => ?_) (fun x hx => ?_) r0
      · rcases List.mem_append.mp hc with k | k
        · exact c0 c k
        · rw [List.mem_singleton.mp k]
          exact ⟨g0, g1⟩
      · obtain ⟨c, hc, nd⟩ := hf x hx
        exact ⟨c, List.mem_append_left _ hc, nd⟩
    · have cc : dd = 3 := by
        have : ¬ (dd : Int) < 3 := fun z => cc (decide_eq_true z)
        omega
      have fin : ∀ (k : Int) (H6 : Hp), Sk K H6 d l pa o t pw cs r ds s → (0 ≤ k ∧ k < ((mOf pw : Nat) : Int)) → (mOf pw ≠ 1 → k = 1) → (1 : Nat) ≤ sizeLine ∧ ∀ t1, H6 t1 = none → (3 : Nat) ≤ sizeLine ∧ ∀ t2, (upd H6 t1 (.tup [V.int k])) t2 = none →
          ∃ (p : Addr) (es : List Int) (z : Int), V.ref t2 = .ref p ∧ Sk K (upd (upd H6 t1 (.tup [V.int k])) t2 (.tup [.int ((mOf pw : Nat) : Int), .ref t1, .int 0])) d l pa o t pw cs r ds s ∧ SAt K (upd (upd H6 t1 (.tup [V.int k])) t2 (.tup [.int ((mOf pw : Nat) : Int), .ref t1, .int 0])) p (mOf pw) es z ∧ SOk pw es z ∧ es.length ≠ cs.length := by
        intro k H6 S k0 k1
        refine ⟨by decide, fun t1 nt1 => ⟨by decide, fun t2 nt2 => ?_⟩⟩
        have s7 := same_new nt1 (.tup [V.int k])
        have s8 := same_new nt2 (.tup [.int ((mOf pw : Nat) : Int), .ref t1, .int 0])
        refine ⟨t2, [k], 0, rfl, S.same npl (s7.trans s8), ⟨t1, SqT.of upd_same, s8.sqt (SqT.of upd_same)⟩, SOk.mk2 hP.per (by simp) (by simp) (fun c hc => by rw [List.mem_singleton.mp hc]; exact k0) (fun x hx => ?_) ⟨by omega, by omega⟩, by show 1 ≠ cs.length; omega⟩
        have ne : mOf pw ≠ 1 := by
          intro e
          have := (qOf_le hw hx).2
          have x2 := PN_lt _ (hw.mem hx)
          have := hw.pos x hx
          have := Nat.pow_le_pow_right (n := x.1) (by omega) this
          rw [Nat.pow_one] at this
          have : x.1 ≤ qOf x := this
          omega
        exact ⟨k, List.mem_singleton.mpr rfl, by rw [k1 ne]; exact p_one (hw.mem hx)⟩
      refine ⟨_, rfl, _, rfl, _, _, rfl, rfl, _, rfl, ite2 (fun c1 => ?_) (fun c1 => ?_)⟩
      · have c1 : 1 < mOf pw := by have := of_decide_eq_true c1; omega
        obtain ⟨k1, k2⟩ := fin 1 H5 S ⟨by omega, by omega⟩ (fun _ => rfl)
        refine ⟨k1, fun t1 nt1 => ?_⟩
        obtain ⟨k3, k4⟩ := k2 t1 nt1
        refine ⟨k3, fun t2 nt2 => ?_⟩
        obtain ⟨p, es, z, e, h⟩ := k4 t2 nt2
        cases e
        exact ⟨t2, es, z, rfl, h⟩
      · have c1 : mOf pw = 1 := by
          have : ¬ ((mOf pw : Nat) : Int) > 1 := fun z => c1 (decide_eq_true z)
          omega
        obtain ⟨k1, k2⟩ := fin 0 H5 S ⟨by omega, by omega⟩ (fun z => absurd c1 z)
        refine ⟨k1, fun t1 nt1 => ?_⟩
        obtain ⟨k3, k4⟩ := k2 t1 nt1
        refine ⟨k3, fun t2 nt2 => ?_⟩
        obtain ⟨p, es, z, e, h⟩ := k4 t2 nt2
        cases e
        exact ⟨t2, es, z, rfl, h⟩
  clear S
  rintro σ H6 ⟨p, es, z, rfl, S, hp, hO3, nl⟩
  refine ⟨_, rfl, _, rfl, o, p, pw, pw, cs, es, r, z, false, rfl, S.one, hO, hp, hO3, ⟨fun z => Bool.noConfusion z, fun h => ?_⟩, fun H7 _ => q H7⟩
  have := congrArg List.length h.2.1
  rw [nfC_len, nfC_len] at this
  exact absurd this.symm nl
theorem cl_law {X : Cx} {p pos : Pos} {e : Expr} {es : List Expr} {t : TA} (T : Txt K mg) (hq : Quiet X.A) (hr : Room 7 X.A) (ha : PA X (e :: es) t) (hg : Gl X "law" := by rfl)
    (he : starEach (e :: es) X.env = (false, eval e X.env) :: starEach es X.env := by rfl) (hpl : (backTo pos (starEach es X.env)).any (·.1) = false := by rfl) (hK : X.K = K := by rfl) (hmg : X.mg = mg := by rfl) :
    PE X (.Call (.Name "law" p) (e :: es) [] pos) (tCall (sp_law K) [] E0 t) := by
  subst hK hmg
  exact pe_callG (ok_law T) hq hr hg T.m_law T.F_law.kp T.b_law .nil ha (by decide) he hpl
end
end KL
namespace KL
open PySem PySem.Spec PyProof.Rows L2 RZ StX SrtO Kw KM
theorem mkb_normal_stripe_0_stripe {K : PySem.W.Frag} {a : Addr} {fd : FuncData} (F : Fun K "normal_stripe" "normal_stripe" s_normal_stripe a fd) : KBinds K fd ["stripe"] ["stripe"] gkb_normal_stripe_0_stripe gkb_normal_stripe_0_stripeV := by
  obtain ⟨oc, od, kV, doc, pm, an, cdv, ct, osl, rfl, lk, hcd⟩ := F.ex
  constructor
  · intro s us ws _ hl
    revert hl
    unfold gkb_normal_stripe_0_stripe
    split
    · intro _
      exact .of_eq rfl
    · intro hl
      cases hl
  · intro vs us zs ws h1 h2
    unfold gkb_normal_stripe_0_stripe gkb_normal_stripe_0_stripeV
    cases h1 with
    | nil =>
      cases h2 with
      | nil => exact .nil
      | cons k0 h2 =>
        cases h2 with
        | nil =>
          exact .cons k0 (.nil)
        | cons _ _ => exact .nil
    | cons _ _ => exact .nil
theorem mkb_are_same_0_other_one {K : PySem.W.Frag} {a : Addr} {fd : FuncData} (F : Fun K "are_same" "are_same" s_are_same a fd) : KBinds K fd ["one", "other"] ["other", "one"] gkb_are_same_0_other_one gkb_are_same_0_other_oneV := by
  obtain ⟨oc, od, kV, doc, pm, an, cdv, ct, osl, rfl, lk, hcd⟩ := F.ex
  constructor
  · intro s us ws _ hl
    revert hl
    unfold gkb_are_same_0_other_one
    split
    · intro _
      exact .of_eq rfl
    · intro hl
      cases hl
  · intro vs us zs ws h1 h2
    unfold gkb_are_same_0_other_one gkb_are_same_0_other_oneV
    cases h1 with
    | nil =>
      cases h2 with
      | nil => exact .nil
      | cons k0 h2 =>
        cases h2 with
        | nil => exact .nil
        | cons k1 h2 =>
          cases h2 with
          | nil =>
            exact .cons k1 (.cons k0 (.nil))
          | cons _ _ => exact .nil
    | cons _ _ => exact .nil
theorem all_mk {K : PySem.W.Frag} {h : Heap} {mg : Str → Option Value} (X : K.In h) (G : h.Ns mainGlobals mg)
    {f0 : Addr} {od0 an0 : Option Addr} {sl0 : Array (Option Value)} {oc0 kV0 dc0 pm0 cd0 ct0 : Value}
    (a0 : PySem.W.nsIn K mainGlobals "is_integer" = some (some (.ref f0))) (l0 : K.lookup f0 = some ⟨oc0, od0, .func (PySem.W.fnOf "is_integer" "is_integer" (defArgs s_is_integer) (defBody s_is_integer) (defScope s_is_integer) .none kV0 dc0 pm0 an0 cd0 ct0), sl0⟩)
    (c0 : PySem.W.codeIn K cd0 "is_integer" = true) (k0 : PySem.W.keepIn K (.ref f0) = true)
    {f1 : Addr} {od1 an1 : Option Addr} {sl1 : Array (Option Value)} {oc1 kV1 dc1 pm1 cd1 ct1 : Value}
    (a1 : PySem.W.nsIn K mainGlobals "primes_of" = some (some (.ref f1))) (l1 : K.lookup f1 = some ⟨oc1, od1, .func (PySem.W.fnOf "primes_of" "primes_of" (defArgs s_primes_of) (defBody s_primes_of) (defScope s_primes_of) .none kV1 dc1 pm1 an1 cd1 ct1), sl1⟩)
    (c1 : PySem.W.codeIn K cd1 "primes_of" = true) (k1 : PySem.W.keepIn K (.ref f1) = true)
    {f2 : Addr} {od2 an2 : Option Addr} {sl2 : Array (Option Value)} {oc2 kV2 dc2 pm2 cd2 ct2 : Value}
    (a2 : PySem.W.nsIn K mainGlobals "part_at" = some (some (.ref f2))) (l2 : K.lookup f2 = some ⟨oc2, od2, .func (PySem.W.fnOf "part_at" "part_at" (defArgs s_part_at) (defBody s_part_at) (defScope s_part_at) .none kV2 dc2 pm2 an2 cd2 ct2), sl2⟩)
    (c2 : PySem.W.codeIn K cd2 "part_at" = true) (k2 : PySem.W.keepIn K (.ref f2) = true)
    {f3 : Addr} {od3 an3 : Option Addr} {sl3 : Array (Option Value)} {oc3 kV3 dc3 pm3 cd3 ct3 : Value}
    (a3 : PySem.W.nsIn K mainGlobals "common_divisor" = some (some (.ref f3))) (l3 : K.lookup f3 = some ⟨oc3, od3, .func (PySem.W.fnOf "common_divisor" "common_divisor" (defArgs s_common_divisor) (defBody s_common_divisor) (defScope s_common_divisor) .none kV3 dc3 pm3 an3 cd3 ct3), sl3⟩)
    (c3 : PySem.W.codeIn K cd3 "common_divisor" = true) (k3 : PySem.W.keepIn K (.ref f3) = true)
    {f4 : Addr} {od4 an4 : Option Addr} {sl4 : Array (Option Value)} {oc4 kV4 dc4 pm4 cd4 ct4 : Value}
    (a4 : PySem.W.nsIn K mainGlobals "inverse" = some (some (.ref f4))) (l4 : K.lookup f4 = some ⟨oc4, od4, .func (PySem.W.fnOf "inverse" "inverse" (defArgs s_inverse) (defBody s_inverse) (defScope s_inverse) .none kV4 dc4 pm4 an4 cd4 ct4), sl4⟩)
    (c4 : PySem.W.codeIn K cd4 "inverse" = true) (k4 : PySem.W.keepIn K (.ref f4) = true)
    {f5 : Addr} {od5 an5 : Option Addr} {sl5 : Array (Option Value)} {oc5 kV5 dc5 pm5 cd5 ct5 : Value}
    (a5 : PySem.W.nsIn K mainGlobals "one_at" = some (some (.ref f5))) (l5 : K.lookup f5 = some ⟨oc5, od5, .func (PySem.W.fnOf "one_at" "one_at" (defArgs s_one_at) (defBody s_one_at) (defScope s_one_at) .none kV5 dc5 pm5 an5 cd5 ct5), sl5⟩)
    (c5 : PySem.W.codeIn K cd5 "one_at" = true) (k5 : PySem.W.keepIn K (.ref f5) = true)
    {f6 : Addr} {od6 an6 : Option Addr} {sl6 : Array (Option Value)} {oc6 kV6 dc6 pm6 cd6 ct6 : Value}
    (a6 : PySem.W.nsIn K mainGlobals "is_period" = some (some (.ref f6))) (l6 : K.lookup f6 = some ⟨oc6, od6, .func (PySem.W.fnOf "is_period" "is_period" (defArgs s_is_period) (defBody s_is_period) (defScope s_is_period) .none kV6 dc6 pm6 an6 cd6 ct6), sl6⟩)
    (c6 : PySem.W.codeIn K cd6 "is_period" = true) (k6 : PySem.W.keepIn K (.ref f6) = true)
    {f7 : Addr} {od7 an7 : Option Addr} {sl7 : Array (Option Value)} {oc7 kV7 dc7 pm7 cd7 ct7 : Value}
    (a7 : PySem.W.nsIn K mainGlobals "is_cell" = some (some (.ref f7))) (l7 : K.lookup f7 = some ⟨oc7, od7, .func (PySem.W.fnOf "is_cell" "is_cell" (defArgs s_is_cell) (defBody s_is_cell) (defScope s_is_cell) .none kV7 dc7 pm7 an7 cd7 ct7), sl7⟩)
    (c7 : PySem.W.codeIn K cd7 "is_cell" = true) (k7 : PySem.W.keepIn K (.ref f7) = true)
    {f8 : Addr} {od8 an8 : Option Addr} {sl8 : Array (Option Value)} {oc8 kV8 dc8 pm8 cd8 ct8 : Value}
    (a8 : PySem.W.nsIn K mainGlobals "is_stripe" = some (some (.ref f8))) (l8 : K.lookup f8 = some ⟨oc8, od8, .func (PySem.W.fnOf "is_stripe" "is_stripe" (defArgs s_is_stripe) (defBody s_is_stripe) (defScope s_is_stripe) .none kV8 dc8 pm8 an8 cd8 ct8), sl8⟩)
    (c8 : PySem.W.codeIn K cd8 "is_stripe" = true) (k8 : PySem.W.keepIn K (.ref f8) = true)
    {f9 : Addr} {od9 an9 : Option Addr} {sl9 : Array (Option Value)} {oc9 kV9 dc9 pm9 cd9 ct9 : Value}
    (a9 : PySem.W.nsIn K mainGlobals "normal_stripe" = some (some (.ref f9))) (l9 : K.lookup f9 = some ⟨oc9, od9, .func (PySem.W.fnOf "normal_stripe" "normal_stripe" (defArgs s_normal_stripe) (defBody s_normal_stripe) (defScope s_normal_stripe) .none kV9 dc9 pm9 an9 cd9 ct9), sl9⟩)
    (c9 : PySem.W.codeIn K cd9 "normal_stripe" = true) (k9 : PySem.W.keepIn K (.ref f9) = true)
    {f10 : Addr} {od10 an10 : Option Addr} {sl10 : Array (Option Value)} {oc10 kV10 dc10 pm10 cd10 ct10 : Value}
    (a10 : PySem.W.nsIn K mainGlobals "are_same" = some (some (.ref f10))) (l10 : K.lookup f10 = some ⟨oc10, od10, .func (PySem.W.fnOf "are_same" "are_same" (defArgs s_are_same) (defBody s_are_same) (defScope s_are_same) .none kV10 dc10 pm10 an10 cd10 ct10), sl10⟩)
    (c10 : PySem.W.codeIn K cd10 "are_same" = true) (k10 : PySem.W.keepIn K (.ref f10) = true)
    {f11 : Addr} {od11 an11 : Option Addr} {sl11 : Array (Option Value)} {oc11 kV11 dc11 pm11 cd11 ct11 : Value}
    (a11 : PySem.W.nsIn K mainGlobals "by_period" = some (some (.ref f11))) (l11 : K.lookup f11 = some ⟨oc11, od11, .func (PySem.W.fnOf "by_period" "by_period" (defArgs s_by_period) (defBody s_by_period) (defScope s_by_period) .none kV11 dc11 pm11 an11 cd11 ct11), sl11⟩)
    (c11 : PySem.W.codeIn K cd11 "by_period" = true) (k11 : PySem.W.keepIn K (.ref f11) = true)
    {f12 : Addr} {od12 an12 : Option Addr} {sl12 : Array (Option Value)} {oc12 kV12 dc12 pm12 cd12 ct12 : Value}
    (a12 : PySem.W.nsIn K mainGlobals "normal_form" = some (some (.ref f12))) (l12 : K.lookup f12 = some ⟨oc12, od12, .func (PySem.W.fnOf "normal_form" "normal_form" (defArgs s_normal_form) (defBody s_normal_form) (defScope s_normal_form) .none kV12 dc12 pm12 an12 cd12 ct12), sl12⟩)
    (c12 : PySem.W.codeIn K cd12 "normal_form" = true) (k12 : PySem.W.keepIn K (.ref f12) = true)
    {f13 : Addr} {od13 an13 : Option Addr} {sl13 : Array (Option Value)} {oc13 kV13 dc13 pm13 cd13 ct13 : Value}
    (a13 : PySem.W.nsIn K mainGlobals "normal_factor" = some (some (.ref f13))) (l13 : K.lookup f13 = some ⟨oc13, od13, .func (PySem.W.fnOf "normal_factor" "normal_factor" (defArgs s_normal_factor) (defBody s_normal_factor) (defScope s_normal_factor) .none kV13 dc13 pm13 an13 cd13 ct13), sl13⟩)
    (c13 : PySem.W.codeIn K cd13 "normal_factor" = true) (k13 : PySem.W.keepIn K (.ref f13) = true)
    {f14 : Addr} {od14 an14 : Option Addr} {sl14 : Array (Option Value)} {oc14 kV14 dc14 pm14 cd14 ct14 : Value}
    (a14 : PySem.W.nsIn K mainGlobals "first_place" = some (some (.ref f14))) (l14 : K.lookup f14 = some ⟨oc14, od14, .func (PySem.W.fnOf "first_place" "first_place" (defArgs s_first_place) (defBody s_first_place) (defScope s_first_place) .none kV14 dc14 pm14 an14 cd14 ct14), sl14⟩)
    (c14 : PySem.W.codeIn K cd14 "first_place" = true) (k14 : PySem.W.keepIn K (.ref f14) = true)
    {f15 : Addr} {od15 an15 : Option Addr} {sl15 : Array (Option Value)} {oc15 kV15 dc15 pm15 cd15 ct15 : Value}
    (a15 : PySem.W.nsIn K mainGlobals "check_stripe" = some (some (.ref f15))) (l15 : K.lookup f15 = some ⟨oc15, od15, .func (PySem.W.fnOf "check_stripe" "check_stripe" (defArgs s_check_stripe) (defBody s_check_stripe) (defScope s_check_stripe) .none kV15 dc15 pm15 an15 cd15 ct15), sl15⟩)
    (c15 : PySem.W.codeIn K cd15 "check_stripe" = true) (k15 : PySem.W.keepIn K (.ref f15) = true)
    {f16 : Addr} {od16 an16 : Option Addr} {sl16 : Array (Option Value)} {oc16 kV16 dc16 pm16 cd16 ct16 : Value}
    (a16 : PySem.W.nsIn K mainGlobals "_law_deck" = some (some (.ref f16))) (l16 : K.lookup f16 = some ⟨oc16, od16, .func (PySem.W.fnOf "_law_deck" "_law_deck" (defArgs s__law_deck) (defBody s__law_deck) (defScope s__law_deck) .none kV16 dc16 pm16 an16 cd16 ct16), sl16⟩)
    (c16 : PySem.W.codeIn K cd16 "_law_deck" = true) (k16 : PySem.W.keepIn K (.ref f16) = true)
    {f17 : Addr} {od17 an17 : Option Addr} {sl17 : Array (Option Value)} {oc17 kV17 dc17 pm17 cd17 ct17 : Value}
    (a17 : PySem.W.nsIn K mainGlobals "_law_draw" = some (some (.ref f17))) (l17 : K.lookup f17 = some ⟨oc17, od17, .func (PySem.W.fnOf "_law_draw" "_law_draw" (defArgs s__law_draw) (defBody s__law_draw) (defScope s__law_draw) .none kV17 dc17 pm17 an17 cd17 ct17), sl17⟩)
    (c17 : PySem.W.codeIn K cd17 "_law_draw" = true) (k17 : PySem.W.keepIn K (.ref f17) = true)
    {f18 : Addr} {od18 an18 : Option Addr} {sl18 : Array (Option Value)} {oc18 kV18 dc18 pm18 cd18 ct18 : Value}
    (a18 : PySem.W.nsIn K mainGlobals "_law_pick" = some (some (.ref f18))) (l18 : K.lookup f18 = some ⟨oc18, od18, .func (PySem.W.fnOf "_law_pick" "_law_pick" (defArgs s__law_pick) (defBody s__law_pick) (defScope s__law_pick) .none kV18 dc18 pm18 an18 cd18 ct18), sl18⟩)
    (c18 : PySem.W.codeIn K cd18 "_law_pick" = true) (k18 : PySem.W.keepIn K (.ref f18) = true)
    {f19 : Addr} {od19 an19 : Option Addr} {sl19 : Array (Option Value)} {oc19 kV19 dc19 pm19 cd19 ct19 : Value}
    (a19 : PySem.W.nsIn K mainGlobals "_law_great" = some (some (.ref f19))) (l19 : K.lookup f19 = some ⟨oc19, od19, .func (PySem.W.fnOf "_law_great" "_law_great" (defArgs s__law_great) (defBody s__law_great) (defScope s__law_great) .none kV19 dc19 pm19 an19 cd19 ct19), sl19⟩)
    (c19 : PySem.W.codeIn K cd19 "_law_great" = true) (k19 : PySem.W.keepIn K (.ref f19) = true)
    {f20 : Addr} {od20 an20 : Option Addr} {sl20 : Array (Option Value)} {oc20 kV20 dc20 pm20 cd20 ct20 : Value}
    (a20 : PySem.W.nsIn K mainGlobals "_law_powers" = some (some (.ref f20))) (l20 : K.lookup f20 = some ⟨oc20, od20, .func (PySem.W.fnOf "_law_powers" "_law_powers" (defArgs s__law_powers) (defBody s__law_powers) (defScope s__law_powers) .none kV20 dc20 pm20 an20 cd20 ct20), sl20⟩)
    (c20 : PySem.W.codeIn K cd20 "_law_powers" = true) (k20 : PySem.W.keepIn K (.ref f20) = true)
    {f21 : Addr} {od21 an21 : Option Addr} {sl21 : Array (Option Value)} {oc21 kV21 dc21 pm21 cd21 ct21 : Value}
    (a21 : PySem.W.nsIn K mainGlobals "_law_product" = some (some (.ref f21))) (l21 : K.lookup f21 = some ⟨oc21, od21, .func (PySem.W.fnOf "_law_product" "_law_product" (defArgs s__law_product) (defBody s__law_product) (defScope s__law_product) .none kV21 dc21 pm21 an21 cd21 ct21), sl21⟩)
    (c21 : PySem.W.codeIn K cd21 "_law_product" = true) (k21 : PySem.W.keepIn K (.ref f21) = true)
    {f22 : Addr} {od22 an22 : Option Addr} {sl22 : Array (Option Value)} {oc22 kV22 dc22 pm22 cd22 ct22 : Value}
    (a22 : PySem.W.nsIn K mainGlobals "_law_numbers" = some (some (.ref f22))) (l22 : K.lookup f22 = some ⟨oc22, od22, .func (PySem.W.fnOf "_law_numbers" "_law_numbers" (defArgs s__law_numbers) (defBody s__law_numbers) (defScope s__law_numbers) .none kV22 dc22 pm22 an22 cd22 ct22), sl22⟩)
    (c22 : PySem.W.codeIn K cd22 "_law_numbers" = true) (k22 : PySem.W.keepIn K (.ref f22) = true)
    {f23 : Addr} {od23 an23 : Option Addr} {sl23 : Array (Option Value)} {oc23 kV23 dc23 pm23 cd23 ct23 : Value}
    (a23 : PySem.W.nsIn K mainGlobals "_law_unit" = some (some (.ref f23))) (l23 : K.lookup f23 = some ⟨oc23, od23, .func (PySem.W.fnOf "_law_unit" "_law_unit" (defArgs s__law_unit) (defBody s__law_unit) (defScope s__law_unit) .none kV23 dc23 pm23 an23 cd23 ct23), sl23⟩)
    (c23 : PySem.W.codeIn K cd23 "_law_unit" = true) (k23 : PySem.W.keepIn K (.ref f23) = true)
    {f24 : Addr} {od24 an24 : Option Addr} {sl24 : Array (Option Value)} {oc24 kV24 dc24 pm24 cd24 ct24 : Value}
    (a24 : PySem.W.nsIn K mainGlobals "_law_are_multiples" = some (some (.ref f24))) (l24 : K.lookup f24 = some ⟨oc24, od24, .func (PySem.W.fnOf "_law_are_multiples" "_law_are_multiples" (defArgs s__law_are_multiples) (defBody s__law_are_multiples) (defScope s__law_are_multiples) .none kV24 dc24 pm24 an24 cd24 ct24), sl24⟩)
    (c24 : PySem.W.codeIn K cd24 "_law_are_multiples" = true) (k24 : PySem.W.keepIn K (.ref f24) = true)
    {f25 : Addr} {od25 an25 : Option Addr} {sl25 : Array (Option Value)} {oc25 kV25 dc25 pm25 cd25 ct25 : Value}
    (a25 : PySem.W.nsIn K mainGlobals "_law_is_normal" = some (some (.ref f25))) (l25 : K.lookup f25 = some ⟨oc25, od25, .func (PySem.W.fnOf "_law_is_normal" "_law_is_normal" (defArgs s__law_is_normal) (defBody s__law_is_normal) (defScope s__law_is_normal) .none kV25 dc25 pm25 an25 cd25 ct25), sl25⟩)
    (c25 : PySem.W.codeIn K cd25 "_law_is_normal" = true) (k25 : PySem.W.keepIn K (.ref f25) = true)
    {f26 : Addr} {od26 an26 : Option Addr} {sl26 : Array (Option Value)} {oc26 kV26 dc26 pm26 cd26 ct26 : Value}
    (a26 : PySem.W.nsIn K mainGlobals "_law_row" = some (some (.ref f26))) (l26 : K.lookup f26 = some ⟨oc26, od26, .func (PySem.W.fnOf "_law_row" "_law_row" (defArgs s__law_row) (defBody s__law_row) (defScope s__law_row) .none kV26 dc26 pm26 an26 cd26 ct26), sl26⟩)
    (c26 : PySem.W.codeIn K cd26 "_law_row" = true) (k26 : PySem.W.keepIn K (.ref f26) = true)
    {f27 : Addr} {od27 an27 : Option Addr} {sl27 : Array (Option Value)} {oc27 kV27 dc27 pm27 cd27 ct27 : Value}
    (a27 : PySem.W.nsIn K mainGlobals "_law_by" = some (some (.ref f27))) (l27 : K.lookup f27 = some ⟨oc27, od27, .func (PySem.W.fnOf "_law_by" "_law_by" (defArgs s__law_by) (defBody s__law_by) (defScope s__law_by) .none kV27 dc27 pm27 an27 cd27 ct27), sl27⟩)
    (c27 : PySem.W.codeIn K cd27 "_law_by" = true) (k27 : PySem.W.keepIn K (.ref f27) = true)
    {f28 : Addr} {od28 an28 : Option Addr} {sl28 : Array (Option Value)} {oc28 kV28 dc28 pm28 cd28 ct28 : Value}
    (a28 : PySem.W.nsIn K mainGlobals "_law_is_made_normal" = some (some (.ref f28))) (l28 : K.lookup f28 = some ⟨oc28, od28, .func (PySem.W.fnOf "_law_is_made_normal" "_law_is_made_normal" (defArgs s__law_is_made_normal) (defBody s__law_is_made_normal) (defScope s__law_is_made_normal) .none kV28 dc28 pm28 an28 cd28 ct28), sl28⟩)
    (c28 : PySem.W.codeIn K cd28 "_law_is_made_normal" = true) (k28 : PySem.W.keepIn K (.ref f28) = true)
    {f29 : Addr} {od29 an29 : Option Addr} {sl29 : Array (Option Value)} {oc29 kV29 dc29 pm29 cd29 ct29 : Value}
    (a29 : PySem.W.nsIn K mainGlobals "_law_changed" = some (some (.ref f29))) (l29 : K.lookup f29 = some ⟨oc29, od29, .func (PySem.W.fnOf "_law_changed" "_law_changed" (defArgs s__law_changed) (defBody s__law_changed) (defScope s__law_changed) .none kV29 dc29 pm29 an29 cd29 ct29), sl29⟩)
    (c29 : PySem.W.codeIn K cd29 "_law_changed" = true) (k29 : PySem.W.keepIn K (.ref f29) = true)
    {f30 : Addr} {od30 an30 : Option Addr} {sl30 : Array (Option Value)} {oc30 kV30 dc30 pm30 cd30 ct30 : Value}
    (a30 : PySem.W.nsIn K mainGlobals "_law_is_due" = some (some (.ref f30))) (l30 : K.lookup f30 = some ⟨oc30, od30, .func (PySem.W.fnOf "_law_is_due" "_law_is_due" (defArgs s__law_is_due) (defBody s__law_is_due) (defScope s__law_is_due) .none kV30 dc30 pm30 an30 cd30 ct30), sl30⟩)
    (c30 : PySem.W.codeIn K cd30 "_law_is_due" = true) (k30 : PySem.W.keepIn K (.ref f30) = true)
    {f31 : Addr} {od31 an31 : Option Addr} {sl31 : Array (Option Value)} {oc31 kV31 dc31 pm31 cd31 ct31 : Value}
    (a31 : PySem.W.nsIn K mainGlobals "_law_are_none" = some (some (.ref f31))) (l31 : K.lookup f31 = some ⟨oc31, od31, .func (PySem.W.fnOf "_law_are_none" "_law_are_none" (defArgs s__law_are_none) (defBody s__law_are_none) (defScope s__law_are_none) .none kV31 dc31 pm31 an31 cd31 ct31), sl31⟩)
    (c31 : PySem.W.codeIn K cd31 "_law_are_none" = true) (k31 : PySem.W.keepIn K (.ref f31) = true)
    {f32 : Addr} {od32 an32 : Option Addr} {sl32 : Array (Option Value)} {oc32 kV32 dc32 pm32 cd32 ct32 : Value}
    (a32 : PySem.W.nsIn K mainGlobals "law" = some (some (.ref f32))) (l32 : K.lookup f32 = some ⟨oc32, od32, .func (PySem.W.fnOf "law" "law" (defArgs s_law) (defBody s_law) (defScope s_law) .none kV32 dc32 pm32 an32 cd32 ct32), sl32⟩)
    (c32 : PySem.W.codeIn K cd32 "law" = true) (k32 : PySem.W.keepIn K (.ref f32) = true)
    (z0 : PySem.W.nsIn K mainGlobals "all" = some none)
    (z1 : PySem.W.nsIn K mainGlobals "bool" = some none)
    (z2 : PySem.W.nsIn K mainGlobals "enumerate" = some none)
    (z3 : PySem.W.nsIn K mainGlobals "int" = some none)
    (z4 : PySem.W.nsIn K mainGlobals "isinstance" = some none)
    (z5 : PySem.W.nsIn K mainGlobals "len" = some none)
    (z6 : PySem.W.nsIn K mainGlobals "list" = some none)
    (z7 : PySem.W.nsIn K mainGlobals "max" = some none)
    (z8 : PySem.W.nsIn K mainGlobals "range" = some none)
    (z9 : PySem.W.nsIn K mainGlobals "repr" = some none)
    (z10 : PySem.W.nsIn K mainGlobals "sorted" = some none)
    (z11 : PySem.W.nsIn K mainGlobals "sum" = some none)
    (z12 : PySem.W.nsIn K mainGlobals "tuple" = some none)
    (b0 : PySem.W.nsIn K mainGlobals "gcd" = some (some (.builtin "math.gcd")))
    (v0 : PySem.W.nsIn K mainGlobals "PRIMES" = some (some (.ref (He.ga K "PRIMES")))) (w0 : He.tupB K "PRIMES" (([2, 3, 5, 7, 11, 13, 17, 19, 23, 29] : List Int).map He.Dv.int) = true)
    {t1 : Tok} (v1 : PySem.W.nsIn K mainGlobals "MOST_BREADTH" = some (some (.int 3 t1)))
    {t2 : Tok} (v2 : PySem.W.nsIn K mainGlobals "MOST_PRIMES_MULTIPLIED" = some (some (.int 1000 t2)))
    : Nonempty (Txt K mg) := by
  have F0 := fun_mk (st := s_is_integer) l0 c0 k0
  have F1 := fun_mk (st := s_primes_of) l1 c1 k1
  have F2 := fun_mk (st := s_part_at) l2 c2 k2
  have F3 := fun_mk (st := s_common_divisor) l3 c3 k3
  have F4 := fun_mk (st := s_inverse) l4 c4 k4
  have F5 := fun_mk (st := s_one_at) l5 c5 k5
  have F6 := fun_mk (st := s_is_period) l6 c6 k6
  have F7 := fun_mk (st := s_is_cell) l7 c7 k7
  have F8 := fun_mk (st := s_is_stripe) l8 c8 k8
  have F9 := fun_mk (st := s_normal_stripe) l9 c9 k9
  have F10 := fun_mk (st := s_are_same) l10 c10 k10
  have F11 := fun_mk (st := s_by_period) l11 c11 k11
  have F12 := fun_mk (st := s_normal_form) l12 c12 k12
  have F13 := fun_mk (st := s_normal_factor) l13 c13 k13
  have F14 := fun_mk (st := s_first_place) l14 c14 k14
  have F15 := fun_mk (st := s_check_stripe) l15 c15 k15
  have F16 := fun_mk (st := s__law_deck) l16 c16 k16
  have F17 := fun_mk (st := s__law_draw) l17 c17 k17
  have F18 := fun_mk (st := s__law_pick) l18 c18 k18
  have F19 := fun_mk (st := s__law_great) l19 c19 k19
  have F20 := fun_mk (st := s__law_powers) l20 c20 k20
  have F21 := fun_mk (st := s__law_product) l21 c21 k21
  have F22 := fun_mk (st := s__law_numbers) l22 c22 k22
  have F23 := fun_mk (st := s__law_unit) l23 c23 k23
  have F24 := fun_mk (st := s__law_are_multiples) l24 c24 k24
  have F25 := fun_mk (st := s__law_is_normal) l25 c25 k25
  have F26 := fun_mk (st := s__law_row) l26 c26 k26
  have F27 := fun_mk (st := s__law_by) l27 c27 k27
  have F28 := fun_mk (st := s__law_is_made_normal) l28 c28 k28
  have F29 := fun_mk (st := s__law_changed) l29 c29 k29
  have F30 := fun_mk (st := s__law_is_due) l30 c30 k30
  have F31 := fun_mk (st := s__law_are_none) l31 c31 k31
  have F32 := fun_mk (st := s_law) l32 c32 k32
  exact ⟨{
    a_is_integer := f0
    d_is_integer := _
    F_is_integer := F0
    m_is_integer := PySem.W.mg_of X G a0
    b_is_integer := F0.binds (ps := ["thing"]) fun _ _ _ _ _ _ us hl => match us, hl with | [_], _ => rfl
    a_primes_of := f1
    d_primes_of := _
    F_primes_of := F1
    m_primes_of := PySem.W.mg_of X G a1
    b_primes_of := F1.binds (ps := ["number"]) fun _ _ _ _ _ _ us hl => match us, hl with | [_], _ => rfl
    a_part_at := f2
    d_part_at := _
    F_part_at := F2
    m_part_at := PySem.W.mg_of X G a2
    b_part_at := F2.binds (ps := ["number", "p"]) fun _ _ _ _ _ _ us hl => match us, hl with | [_, _], _ => rfl
    a_common_divisor := f3
    d_common_divisor := _
    F_common_divisor := F3
    m_common_divisor := PySem.W.mg_of X G a3
    b_common_divisor := F3.binds (ps := ["number", "others"]) fun _ _ _ _ _ _ us hl => match us, hl with | [_, _], _ => rfl
    a_inverse := f4
    d_inverse := _
    F_inverse := F4
    m_inverse := PySem.W.mg_of X G a4
    b_inverse := F4.binds (ps := ["number", "modulus"]) fun _ _ _ _ _ _ us hl => match us, hl with | [_, _], _ => rfl
    a_one_at := f5
    d_one_at := _
    F_one_at := F5
    m_one_at := PySem.W.mg_of X G a5
    b_one_at := F5.binds (ps := ["number", "p"]) fun _ _ _ _ _ _ us hl => match us, hl with | [_, _], _ => rfl
    a_is_period := f6
    d_is_period := _
    F_is_period := F6
    m_is_period := PySem.W.mg_of X G a6
    b_is_period := F6.binds (ps := ["thing"]) fun _ _ _ _ _ _ us hl => match us, hl with | [_], _ => rfl
    a_is_cell := f7
    d_is_cell := _
    F_is_cell := F7
    m_is_cell := PySem.W.mg_of X G a7
    b_is_cell := F7.binds (ps := ["thing"]) fun _ _ _ _ _ _ us hl => match us, hl with | [_], _ => rfl
    a_is_stripe := f8
    d_is_stripe := _
    F_is_stripe := F8
    m_is_stripe := PySem.W.mg_of X G a8
    b_is_stripe := F8.binds (ps := ["thing"]) fun _ _ _ _ _ _ us hl => match us, hl with | [_], _ => rfl
    a_normal_stripe := f9
    d_normal_stripe := _
    F_normal_stripe := F9
    m_normal_stripe := PySem.W.mg_of X G a9
    b_normal_stripe := F9.binds (ps := ["stripe"]) fun _ _ _ _ _ _ us hl => match us, hl with | [_], _ => rfl
    a_are_same := f10
    d_are_same := _
    F_are_same := F10
    m_are_same := PySem.W.mg_of X G a10
    b_are_same := F10.binds (ps := ["one", "other"]) fun _ _ _ _ _ _ us hl => match us, hl with | [_, _], _ => rfl
    a_by_period := f11
    d_by_period := _
    F_by_period := F11
    m_by_period := PySem.W.mg_of X G a11
    b_by_period := F11.binds (ps := ["m", "c", "r"]) fun _ _ _ _ _ _ us hl => match us, hl with | [_, _, _], _ => rfl
    a_normal_form := f12
    d_normal_form := _
    F_normal_form := F12
    m_normal_form := PySem.W.mg_of X G a12
    b_normal_form := F12.binds (ps := ["stripe"]) fun _ _ _ _ _ _ us hl => match us, hl with | [_], _ => rfl
    a_normal_factor := f13
    d_normal_factor := _
    F_normal_factor := F13
    m_normal_factor := PySem.W.mg_of X G a13
    b_normal_factor := F13.binds (ps := ["m", "c"]) fun _ _ _ _ _ _ us hl => match us, hl with | [_, _], _ => rfl
    a_first_place := f14
    d_first_place := _
    F_first_place := F14
    m_first_place := PySem.W.mg_of X G a14
    b_first_place := F14.binds (ps := ["c", "p"]) fun _ _ _ _ _ _ us hl => match us, hl with | [_, _], _ => rfl
    a_check_stripe := f15
    d_check_stripe := _
    F_check_stripe := F15
    m_check_stripe := PySem.W.mg_of X G a15
    b_check_stripe := F15.binds (ps := ["thing"]) fun _ _ _ _ _ _ us hl => match us, hl with | [_], _ => rfl
    a__law_deck := f16
    d__law_deck := _
    F__law_deck := F16
    m__law_deck := PySem.W.mg_of X G a16
    b__law_deck := F16.binds (ps := ["_law_script"]) fun _ _ _ _ _ _ us hl => match us, hl with | [_], _ => rfl
    a__law_draw := f17
    d__law_draw := _
    F__law_draw := F17
    m__law_draw := PySem.W.mg_of X G a17
    b__law_draw := F17.binds (ps := ["_law_deck_here", "_law_many"]) fun _ _ _ _ _ _ us hl => match us, hl with | [_, _], _ => rfl
    a__law_pick := f18
    d__law_pick := _
    F__law_pick := F18
    m__law_pick := PySem.W.mg_of X G a18
    b__law_pick := F18.binds (ps := ["_law_deck_here", "_law_some"]) fun _ _ _ _ _ _ us hl => match us, hl with | [_, _], _ => rfl
    a__law_great := f19
    d__law_great := _
    F__law_great := F19
    m__law_great := PySem.W.mg_of X G a19
    b__law_great := F19.binds (ps := ["_law_deck_here", "_law_top"]) fun _ _ _ _ _ _ us hl => match us, hl with | [_, _], _ => rfl
    a__law_powers := f20
    d__law_powers := _
    F__law_powers := F20
    m__law_powers := PySem.W.mg_of X G a20
    b__law_powers := F20.binds (ps := ["_law_deck_here", "_law_top", "_law_most"]) fun _ _ _ _ _ _ us hl => match us, hl with | [_, _, _], _ => rfl
    a__law_product := f21
    d__law_product := _
    F__law_product := F21
    m__law_product := PySem.W.mg_of X G a21
    b__law_product := F21.binds (ps := ["_law_some"]) fun _ _ _ _ _ _ us hl => match us, hl with | [_], _ => rfl
    a__law_numbers := f22
    d__law_numbers := _
    F__law_numbers := F22
    m__law_numbers := PySem.W.mg_of X G a22
    b__law_numbers := F22.binds (ps := ["_law_deck_here", "_law_powers_here", "_law_m", "_law_d"]) fun _ _ _ _ _ _ us hl => match us, hl with | [_, _, _, _], _ => rfl
    a__law_unit := f23
    d__law_unit := _
    F__law_unit := F23
    m__law_unit := PySem.W.mg_of X G a23
    b__law_unit := F23.binds (ps := ["_law_deck_here", "_law_powers_here", "_law_m"]) fun _ _ _ _ _ _ us hl => match us, hl with | [_, _, _], _ => rfl
    a__law_are_multiples := f24
    d__law_are_multiples := _
    F__law_are_multiples := F24
    m__law_are_multiples := PySem.W.mg_of X G a24
    b__law_are_multiples := F24.binds (ps := ["_law_m", "_law_one", "_law_other"]) fun _ _ _ _ _ _ us hl => match us, hl with | [_, _, _], _ => rfl
    a__law_is_normal := f25
    d__law_is_normal := _
    F__law_is_normal := F25
    m__law_is_normal := PySem.W.mg_of X G a25
    b__law_is_normal := F25.binds (ps := ["_law_powers_here", "_law_m", "_law_stripe"]) fun _ _ _ _ _ _ us hl => match us, hl with | [_, _, _], _ => rfl
    a__law_row := f26
    d__law_row := _
    F__law_row := F26
    m__law_row := PySem.W.mg_of X G a26
    b__law_row := F26.binds (ps := ["_law_stripe"]) fun _ _ _ _ _ _ us hl => match us, hl with | [_], _ => rfl
    a__law_by := f27
    d__law_by := _
    F__law_by := F27
    m__law_by := PySem.W.mg_of X G a27
    b__law_by := F27.binds (ps := ["_law_stripe", "_law_u"]) fun _ _ _ _ _ _ us hl => match us, hl with | [_, _], _ => rfl
    a__law_is_made_normal := f28
    d__law_is_made_normal := _
    F__law_is_made_normal := F28
    m__law_is_made_normal := PySem.W.mg_of X G a28
    b__law_is_made_normal := F28.binds (ps := ["_law_powers_here", "_law_stripe"]) fun _ _ _ _ _ _ us hl => match us, hl with | [_, _], _ => rfl
    a__law_changed := f29
    d__law_changed := _
    F__law_changed := F29
    m__law_changed := PySem.W.mg_of X G a29
    b__law_changed := F29.binds (ps := ["_law_deck_here", "_law_powers_here", "_law_stripe"]) fun _ _ _ _ _ _ us hl => match us, hl with | [_, _, _], _ => rfl
    a__law_is_due := f30
    d__law_is_due := _
    F__law_is_due := F30
    m__law_is_due := PySem.W.mg_of X G a30
    b__law_is_due := F30.binds (ps := ["_law_one", "_law_other", "_law_due"]) fun _ _ _ _ _ _ us hl => match us, hl with | [_, _, _], _ => rfl
    a__law_are_none := f31
    d__law_are_none := _
    F__law_are_none := F31
    m__law_are_none := PySem.W.mg_of X G a31
    b__law_are_none := F31.binds (ps := ["_law_powers_here", "_law_stripe"]) fun _ _ _ _ _ _ us hl => match us, hl with | [_, _], _ => rfl
    a_law := f32
    d_law := _
    F_law := F32
    m_law := PySem.W.mg_of X G a32
    b_law := F32.binds (ps := ["_law_script"]) fun _ _ _ _ _ _ us hl => match us, hl with | [_], _ => rfl
    n_all := PySem.W.mg_none_of X G z0
    n_bool := PySem.W.mg_none_of X G z1
    n_enumerate := PySem.W.mg_none_of X G z2
    n_int := PySem.W.mg_none_of X G z3
    n_isinstance := PySem.W.mg_none_of X G z4
    n_len := PySem.W.mg_none_of X G z5
    n_list := PySem.W.mg_none_of X G z6
    n_max := PySem.W.mg_none_of X G z7
    n_range := PySem.W.mg_none_of X G z8
    n_repr := PySem.W.mg_none_of X G z9
    n_sorted := PySem.W.mg_none_of X G z10
    n_sum := PySem.W.mg_none_of X G z11
    n_tuple := PySem.W.mg_none_of X G z12
    kb_normal_stripe_0_stripe := mkb_normal_stripe_0_stripe F9
    kb_are_same_0_other_one := mkb_are_same_0_other_one F10
    m_gcd := PySem.W.mg_of X G b0
    a_PRIMES := He.ga K "PRIMES"
    m_PRIMES := PySem.W.mg_of X G v0
    t_PRIMES := fun H => He.tupB_ok w0 H
    m_MOST_BREADTH := ⟨_, PySem.W.mg_of X G v1⟩
    m_MOST_PRIMES_MULTIPLIED := ⟨_, PySem.W.mg_of X G v2⟩
  }⟩
theorem law_at {K : PySem.W.Frag} {mg : Str → Option Value} {fa : Addr} (T : Txt K mg) (hfa : mg "law" = some (.ref fa)) : fa = T.a_law := by
  have e := hfa.symm.trans T.m_law
  injection e with e
  injection e
theorem law_binds {K : PySem.W.Frag} {mg : Str → Option Value} (T : Txt K mg) (s : Shared) (u : Value) : BindsTo s T.d_law ⟨[u], []⟩ [("_law_script", u)] := by
  obtain ⟨oc, od, kV, doc, pm, an, cdv, ct, osl, e, lk, hcd⟩ := T.F_law.ex
  rw [e]
  exact .of_eq rfl
theorem all_end {l : PySem.W.OpenLaw} {w : World} {K : PySem.W.Frag} {h : Heap} {mg : Str → Option Value} {fa : Addr} (X : K.In h) (G : h.Ns mainGlobals mg) (hfa : mg "law" = some (.ref fa))
    {f0 : Addr} {od0 an0 : Option Addr} {sl0 : Array (Option Value)} {oc0 kV0 dc0 pm0 cd0 ct0 : Value}
    (a0 : PySem.W.nsIn K mainGlobals "is_integer" = some (some (.ref f0))) (l0 : K.lookup f0 = some ⟨oc0, od0, .func (PySem.W.fnOf "is_integer" "is_integer" (defArgs s_is_integer) (defBody s_is_integer) (defScope s_is_integer) .none kV0 dc0 pm0 an0 cd0 ct0), sl0⟩)
    (c0 : PySem.W.codeIn K cd0 "is_integer" = true) (k0 : PySem.W.keepIn K (.ref f0) = true)
    {f1 : Addr} {od1 an1 : Option Addr} {sl1 : Array (Option Value)} {oc1 kV1 dc1 pm1 cd1 ct1 : Value}
    (a1 : PySem.W.nsIn K mainGlobals "primes_of" = some (some (.ref f1))) (l1 : K.lookup f1 = some ⟨oc1, od1, .func (PySem.W.fnOf "primes_of" "primes_of" (defArgs s_primes_of) (defBody s_primes_of) (defScope s_primes_of) .none kV1 dc1 pm1 an1 cd1 ct1), sl1⟩)
    (c1 : PySem.W.codeIn K cd1 "primes_of" = true) (k1 : PySem.W.keepIn K (.ref f1) = true)
    {f2 : Addr} {od2 an2 : Option Addr} {sl2 : Array (Option Value)} {oc2 kV2 dc2 pm2 cd2 ct2 : Value}
    (a2 : PySem.W.nsIn K mainGlobals "part_at" = some (some (.ref f2))) (l2 : K.lookup f2 = some ⟨oc2, od2, .func (PySem.W.fnOf "part_at" "part_at" (defArgs s_part_at) (defBody s_part_at) (defScope s_part_at) .none kV2 dc2 pm2 an2 cd2 ct2), sl2⟩)
    (c2 : PySem.W.codeIn K cd2 "part_at" = true) (k2 : PySem.W.keepIn K (.ref f2) = true)
    {f3 : Addr} {od3 an3 : Option Addr} {sl3 : Array (Option Value)} {oc3 kV3 dc3 pm3 cd3 ct3 : Value}
    (a3 : PySem.W.nsIn K mainGlobals "common_divisor" = some (some (.ref f3))) (l3 : K.lookup f3 = some ⟨oc3, od3, .func (PySem.W.fnOf "common_divisor" "common_divisor" (defArgs s_common_divisor) (defBody s_common_divisor) (defScope s_common_divisor) .none kV3 dc3 pm3 an3 cd3 ct3), sl3⟩)
    (c3 : PySem.W.codeIn K cd3 "common_divisor" = true) (k3 : PySem.W.keepIn K (.ref f3) = true)
    {f4 : Addr} {od4 an4 : Option Addr} {sl4 : Array (Option Value)} {oc4 kV4 dc4 pm4 cd4 ct4 : Value}
    (a4 : PySem.W.nsIn K mainGlobals "inverse" = some (some (.ref f4))) (l4 : K.lookup f4 = some ⟨oc4, od4, .func (PySem.W.fnOf "inverse" "inverse" (defArgs s_inverse) (defBody s_inverse) (defScope s_inverse) .none kV4 dc4 pm4 an4 cd4 ct4), sl4⟩)
    (c4 : PySem.W.codeIn K cd4 "inverse" = true) (k4 : PySem.W.keepIn K (.ref f4) = true)
    {f5 : Addr} {od5 an5 : Option Addr} {sl5 : Array (Option Value)} {oc5 kV5 dc5 pm5 cd5 ct5 : Value}
    (a5 : PySem.W.nsIn K mainGlobals "one_at" = some (some (.ref f5))) (l5 : K.lookup f5 = some ⟨oc5, od5, .func (PySem.W.fnOf "one_at" "one_at" (defArgs s_one_at) (defBody s_one_at) (defScope s_one_at) .none kV5 dc5 pm5 an5 cd5 ct5), sl5⟩)
    (c5 : PySem.W.codeIn K cd5 "one_at" = true) (k5 : PySem.W.keepIn K (.ref f5) = true)
    {f6 : Addr} {od6 an6 : Option Addr} {sl6 : Array (Option Value)} {oc6 kV6 dc6 pm6 cd6 ct6 : Value}
    (a6 : PySem.W.nsIn K mainGlobals "is_period" = some (some (.ref f6))) (l6 : K.lookup f6 = some ⟨oc6, od6, .func (PySem.W.fnOf "is_period" "is_period" (defArgs s_is_period) (defBody s_is_period) (defScope s_is_period) .none kV6 dc6 pm6 an6 cd6 ct6), sl6⟩)
    (c6 : PySem.W.codeIn K cd6 "is_period" = true) (k6 : PySem.W.keepIn K (.ref f6) = true)
    {f7 : Addr} {od7 an7 : Option Addr} {sl7 : Array (Option Value)} {oc7 kV7 dc7 pm7 cd7 ct7 : Value}
    (a7 : PySem.W.nsIn K mainGlobals "is_cell" = some (some (.ref f7))) (l7 : K.lookup f7 = some ⟨oc7, od7, .func (PySem.W.fnOf "is_cell" "is_cell" (defArgs s_is_cell) (defBody s_is_cell) (defScope s_is_cell) .none kV7 dc7 pm7 an7 cd7 ct7), sl7⟩)
    (c7 : PySem.W.codeIn K cd7 "is_cell" = true) (k7 : PySem.W.keepIn K (.ref f7) = true)
    {f8 : Addr} {od8 an8 : Option Addr} {sl8 : Array (Option Value)} {oc8 kV8 dc8 pm8 cd8 ct8 : Value}
    (a8 : PySem.W.nsIn K mainGlobals "is_stripe" = some (some (.ref f8))) (l8 : K.lookup f8 = some ⟨oc8, od8, .func (PySem.W.fnOf "is_stripe" "is_stripe" (defArgs s_is_stripe) (defBody s_is_stripe) (defScope s_is_stripe) .none kV8 dc8 pm8 an8 cd8 ct8), sl8⟩)
    (c8 : PySem.W.codeIn K cd8 "is_stripe" = true) (k8 : PySem.W.keepIn K (.ref f8) = true)
    {f9 : Addr} {od9 an9 : Option Addr} {sl9 : Array (Option Value)} {oc9 kV9 dc9 pm9 cd9 ct9 : Value}
    (a9 : PySem.W.nsIn K mainGlobals "normal_stripe" = some (some (.ref f9))) (l9 : K.lookup f9 = some ⟨oc9, od9, .func (PySem.W.fnOf "normal_stripe" "normal_stripe" (defArgs s_normal_stripe) (defBody s_normal_stripe) (defScope s_normal_stripe) .none kV9 dc9 pm9 an9 cd9 ct9), sl9⟩)
    (c9 : PySem.W.codeIn K cd9 "normal_stripe" = true) (k9 : PySem.W.keepIn K (.ref f9) = true)
    {f10 : Addr} {od10 an10 : Option Addr} {sl10 : Array (Option Value)} {oc10 kV10 dc10 pm10 cd10 ct10 : Value}
    (a10 : PySem.W.nsIn K mainGlobals "are_same" = some (some (.ref f10))) (l10 : K.lookup f10 = some ⟨oc10, od10, .func (PySem.W.fnOf "are_same" "are_same" (defArgs s_are_same) (defBody s_are_same) (defScope s_are_same) .none kV10 dc10 pm10 an10 cd10 ct10), sl10⟩)
    (c10 : PySem.W.codeIn K cd10 "are_same" = true) (k10 : PySem.W.keepIn K (.ref f10) = true)
    {f11 : Addr} {od11 an11 : Option Addr} {sl11 : Array (Option Value)} {oc11 kV11 dc11 pm11 cd11 ct11 : Value}
    (a11 : PySem.W.nsIn K mainGlobals "by_period" = some (some (.ref f11))) (l11 : K.lookup f11 = some ⟨oc11, od11, .func (PySem.W.fnOf "by_period" "by_period" (defArgs s_by_period) (defBody s_by_period) (defScope s_by_period) .none kV11 dc11 pm11 an11 cd11 ct11), sl11⟩)
    (c11 : PySem.W.codeIn K cd11 "by_period" = true) (k11 : PySem.W.keepIn K (.ref f11) = true)
    {f12 : Addr} {od12 an12 : Option Addr} {sl12 : Array (Option Value)} {oc12 kV12 dc12 pm12 cd12 ct12 : Value}
    (a12 : PySem.W.nsIn K mainGlobals "normal_form" = some (some (.ref f12))) (l12 : K.lookup f12 = some ⟨oc12, od12, .func (PySem.W.fnOf "normal_form" "normal_form" (defArgs s_normal_form) (defBody s_normal_form) (defScope s_normal_form) .none kV12 dc12 pm12 an12 cd12 ct12), sl12⟩)
    (c12 : PySem.W.codeIn K cd12 "normal_form" = true) (k12 : PySem.W.keepIn K (.ref f12) = true)
    {f13 : Addr} {od13 an13 : Option Addr} {sl13 : Array (Option Value)} {oc13 kV13 dc13 pm13 cd13 ct13 : Value}
    (a13 : PySem.W.nsIn K mainGlobals "normal_factor" = some (some (.ref f13))) (l13 : K.lookup f13 = some ⟨oc13, od13, .func (PySem.W.fnOf "normal_factor" "normal_factor" (defArgs s_normal_factor) (defBody s_normal_factor) (defScope s_normal_factor) .none kV13 dc13 pm13 an13 cd13 ct13), sl13⟩)
    (c13 : PySem.W.codeIn K cd13 "normal_factor" = true) (k13 : PySem.W.keepIn K (.ref f13) = true)
    {f14 : Addr} {od14 an14 : Option Addr} {sl14 : Array (Option Value)} {oc14 kV14 dc14 pm14 cd14 ct14 : Value}
    (a14 : PySem.W.nsIn K mainGlobals "first_place" = some (some (.ref f14))) (l14 : K.lookup f14 = some ⟨oc14, od14, .func (PySem.W.fnOf "first_place" "first_place" (defArgs s_first_place) (defBody s_first_place) (defScope s_first_place) .none kV14 dc14 pm14 an14 cd14 ct14), sl14⟩)
    (c14 : PySem.W.codeIn K cd14 "first_place" = true) (k14 : PySem.W.keepIn K (.ref f14) = true)
    {f15 : Addr} {od15 an15 : Option Addr} {sl15 : Array (Option Value)} {oc15 kV15 dc15 pm15 cd15 ct15 : Value}
    (a15 : PySem.W.nsIn K mainGlobals "check_stripe" = some (some (.ref f15))) (l15 : K.lookup f15 = some ⟨oc15, od15, .func (PySem.W.fnOf "check_stripe" "check_stripe" (defArgs s_check_stripe) (defBody s_check_stripe) (defScope s_check_stripe) .none kV15 dc15 pm15 an15 cd15 ct15), sl15⟩)
    (c15 : PySem.W.codeIn K cd15 "check_stripe" = true) (k15 : PySem.W.keepIn K (.ref f15) = true)
    {f16 : Addr} {od16 an16 : Option Addr} {sl16 : Array (Option Value)} {oc16 kV16 dc16 pm16 cd16 ct16 : Value}
    (a16 : PySem.W.nsIn K mainGlobals "_law_deck" = some (some (.ref f16))) (l16 : K.lookup f16 = some ⟨oc16, od16, .func (PySem.W.fnOf "_law_deck" "_law_deck" (defArgs s__law_deck) (defBody s__law_deck) (defScope s__law_deck) .none kV16 dc16 pm16 an16 cd16 ct16), sl16⟩)
    (c16 : PySem.W.codeIn K cd16 "_law_deck" = true) (k16 : PySem.W.keepIn K (.ref f16) = true)
    {f17 : Addr} {od17 an17 : Option Addr} {sl17 : Array (Option Value)} {oc17 kV17 dc17 pm17 cd17 ct17 : Value}
    (a17 : PySem.W.nsIn K mainGlobals "_law_draw" = some (some (.ref f17))) (l17 : K.lookup f17 = some ⟨oc17, od17, .func (PySem.W.fnOf "_law_draw" "_law_draw" (defArgs s__law_draw) (defBody s__law_draw) (defScope s__law_draw) .none kV17 dc17 pm17 an17 cd17 ct17), sl17⟩)
    (c17 : PySem.W.codeIn K cd17 "_law_draw" = true) (k17 : PySem.W.keepIn K (.ref f17) = true)
    {f18 : Addr} {od18 an18 : Option Addr} {sl18 : Array (Option Value)} {oc18 kV18 dc18 pm18 cd18 ct18 : Value}
    (a18 : PySem.W.nsIn K mainGlobals "_law_pick" = some (some (.ref f18))) (l18 : K.lookup f18 = some ⟨oc18, od18, .func (PySem.W.fnOf "_law_pick" "_law_pick" (defArgs s__law_pick) (defBody s__law_pick) (defScope s__law_pick) .none kV18 dc18 pm18 an18 cd18 ct18), sl18⟩)
    (c18 : PySem.W.codeIn K cd18 "_law_pick" = true) (k18 : PySem.W.keepIn K (.ref f18) = true)
    {f19 : Addr} {od19 an19 : Option Addr} {sl19 : Array (Option Value)} {oc19 kV19 dc19 pm19 cd19 ct19 : Value}
    (a19 : PySem.W.nsIn K mainGlobals "_law_great" = some (some (.ref f19))) (l19 : K.lookup f19 = some ⟨oc19, od19, .func (PySem.W.fnOf "_law_great" "_law_great" (defArgs s__law_great) (defBody s__law_great) (defScope s__law_great) .none kV19 dc19 pm19 an19 cd19 ct19), sl19⟩)
    (c19 : PySem.W.codeIn K cd19 "_law_great" = true) (k19 : PySem.W.keepIn K (.ref f19) = true)
    {f20 : Addr} {od20 an20 : Option Addr} {sl20 : Array (Option Value)} {oc20 kV20 dc20 pm20 cd20 ct20 : Value}
    (a20 : PySem.W.nsIn K mainGlobals "_law_powers" = some (some (.ref f20))) (l20 : K.lookup f20 = some ⟨oc20, od20, .func (PySem.W.fnOf "_law_powers" "_law_powers" (defArgs s__law_powers) (defBody s__law_powers) (defScope s__law_powers) .none kV20 dc20 pm20 an20 cd20 ct20), sl20⟩)
    (c20 : PySem.W.codeIn K cd20 "_law_powers" = true) (k20 : PySem.W.keepIn K (.ref f20) = true)
    {f21 : Addr} {od21 an21 : Option Addr} {sl21 : Array (Option Value)} {oc21 kV21 dc21 pm21 cd21 ct21 : Value}
    (a21 : PySem.W.nsIn K mainGlobals "_law_product" = some (some (.ref f21))) (l21 : K.lookup f21 = some ⟨oc21, od21, .func (PySem.W.fnOf "_law_product" "_law_product" (defArgs s__law_product) (defBody s__law_product) (defScope s__law_product) .none kV21 dc21 pm21 an21 cd21 ct21), sl21⟩)
    (c21 : PySem.W.codeIn K cd21 "_law_product" = true) (k21 : PySem.W.keepIn K (.ref f21) = true)
    {f22 : Addr} {od22 an22 : Option Addr} {sl22 : Array (Option Value)} {oc22 kV22 dc22 pm22 cd22 ct22 : Value}
    (a22 : PySem.W.nsIn K mainGlobals "_law_numbers" = some (some (.ref f22))) (l22 : K.lookup f22 = some ⟨oc22, od22, .func (PySem.W.fnOf "_law_numbers" "_law_numbers" (defArgs s__law_numbers) (defBody s__law_numbers) (defScope s__law_numbers) .none kV22 dc22 pm22 an22 cd22 ct22), sl22⟩)
    (c22 : PySem.W.codeIn K cd22 "_law_numbers" = true) (k22 : PySem.W.keepIn K (.ref f22) = true)
    {f23 : Addr} {od23 an23 : Option Addr} {sl23 : Array (Option Value)} {oc23 kV23 dc23 pm23 cd23 ct23 : Value}
    (a23 : PySem.W.nsIn K mainGlobals "_law_unit" = some (some (.ref f23))) (l23 : K.lookup f23 = some ⟨oc23, od23, .func (PySem.W.fnOf "_law_unit" "_law_unit" (defArgs s__law_unit) (defBody s__law_unit) (defScope s__law_unit) .none kV23 dc23 pm23 an23 cd23 ct23), sl23⟩)
    (c23 : PySem.W.codeIn K cd23 "_law_unit" = true) (k23 : PySem.W.keepIn K (.ref f23) = true)
    {f24 : Addr} {od24 an24 : Option Addr} {sl24 : Array (Option Value)} {oc24 kV24 dc24 pm24 cd24 ct24 : Value}
    (a24 : PySem.W.nsIn K mainGlobals "_law_are_multiples" = some (some (.ref f24))) (l24 : K.lookup f24 = some ⟨oc24, od24, .func (PySem.W.fnOf "_law_are_multiples" "_law_are_multiples" (defArgs s__law_are_multiples) (defBody s__law_are_multiples) (defScope s__law_are_multiples) .none kV24 dc24 pm24 an24 cd24 ct24), sl24⟩)
    (c24 : PySem.W.codeIn K cd24 "_law_are_multiples" = true) (k24 : PySem.W.keepIn K (.ref f24) = true)
    {f25 : Addr} {od25 an25 : Option Addr} {sl25 : Array (Option Value)} {oc25 kV25 dc25 pm25 cd25 ct25 : Value}
    (a25 : PySem.W.nsIn K mainGlobals "_law_is_normal" = some (some (.ref f25))) (l25 : K.lookup f25 = some ⟨oc25, od25, .func (PySem.W.fnOf "_law_is_normal" "_law_is_normal" (defArgs s__law_is_normal) (defBody s__law_is_normal) (defScope s__law_is_normal) .none kV25 dc25 pm25 an25 cd25 ct25), sl25⟩)
    (c25 : PySem.W.codeIn K cd25 "_law_is_normal" = true) (k25 : PySem.W.keepIn K (.ref f25) = true)
    {f26 : Addr} {od26 an26 : Option Addr} {sl26 : Array (Option Value)} {oc26 kV26 dc26 pm26 cd26 ct26 : Value}
    (a26 : PySem.W.nsIn K mainGlobals "_law_row" = some (some (.ref f26))) (l26 : K.lookup f26 = some ⟨oc26, od26, .func (PySem.W.fnOf "_law_row" "_law_row" (defArgs s__law_row) (defBody s__law_row) (defScope s__law_row) .none kV26 dc26 pm26 an26 cd26 ct26), sl26⟩)
    (c26 : PySem.W.codeIn K cd26 "_law_row" = true) (k26 : PySem.W.keepIn K (.ref f26) = true)
    {f27 : Addr} {od27 an27 : Option Addr} {sl27 : Array (Option Value)} {oc27 kV27 dc27 pm27 cd27 ct27 : Value}
    (a27 : PySem.W.nsIn K mainGlobals "_law_by" = some (some (.ref f27))) (l27 : K.lookup f27 = some ⟨oc27, od27, .func (PySem.W.fnOf "_law_by" "_law_by" (defArgs s__law_by) (defBody s__law_by) (defScope s__law_by) .none kV27 dc27 pm27 an27 cd27 ct27), sl27⟩)
    (c27 : PySem.W.codeIn K cd27 "_law_by" = true) (k27 : PySem.W.keepIn K (.ref f27) = true)
    {f28 : Addr} {od28 an28 : Option Addr} {sl28 : Array (Option Value)} {oc28 kV28 dc28 pm28 cd28 ct28 : Value}
    (a28 : PySem.W.nsIn K mainGlobals "_law_is_made_normal" = some (some (.ref f28))) (l28 : K.lookup f28 = some ⟨oc28, od28, .func (PySem.W.fnOf "_law_is_made_normal" "_law_is_made_normal" (defArgs s__law_is_made_normal) (defBody s__law_is_made_normal) (defScope s__law_is_made_normal) .none kV28 dc28 pm28 an28 cd28 ct28), sl28⟩)
    (c28 : PySem.W.codeIn K cd28 "_law_is_made_normal" = true) (k28 : PySem.W.keepIn K (.ref f28) = true)
    {f29 : Addr} {od29 an29 : Option Addr} {sl29 : Array (Option Value)} {oc29 kV29 dc29 pm29 cd29 ct29 : Value}
    (a29 : PySem.W.nsIn K mainGlobals "_law_changed" = some (some (.ref f29))) (l29 : K.lookup f29 = some ⟨oc29, od29, .func (PySem.W.fnOf "_law_changed" "_law_changed" (defArgs s__law_changed) (defBody s__law_changed) (defScope s__law_changed) .none kV29 dc29 pm29 an29 cd29 ct29), sl29⟩)
    (c29 : PySem.W.codeIn K cd29 "_law_changed" = true) (k29 : PySem.W.keepIn K (.ref f29) = true)
    {f30 : Addr} {od30 an30 : Option Addr} {sl30 : Array (Option Value)} {oc30 kV30 dc30 pm30 cd30 ct30 : Value}
    (a30 : PySem.W.nsIn K mainGlobals "_law_is_due" = some (some (.ref f30))) (l30 : K.lookup f30 = some ⟨oc30, od30, .func (PySem.W.fnOf "_law_is_due" "_law_is_due" (defArgs s__law_is_due) (defBody s__law_is_due) (defScope s__law_is_due) .none kV30 dc30 pm30 an30 cd30 ct30), sl30⟩)
    (c30 : PySem.W.codeIn K cd30 "_law_is_due" = true) (k30 : PySem.W.keepIn K (.ref f30) = true)
    {f31 : Addr} {od31 an31 : Option Addr} {sl31 : Array (Option Value)} {oc31 kV31 dc31 pm31 cd31 ct31 : Value}
    (a31 : PySem.W.nsIn K mainGlobals "_law_are_none" = some (some (.ref f31))) (l31 : K.lookup f31 = some ⟨oc31, od31, .func (PySem.W.fnOf "_law_are_none" "_law_are_none" (defArgs s__law_are_none) (defBody s__law_are_none) (defScope s__law_are_none) .none kV31 dc31 pm31 an31 cd31 ct31), sl31⟩)
    (c31 : PySem.W.codeIn K cd31 "_law_are_none" = true) (k31 : PySem.W.keepIn K (.ref f31) = true)
    {f32 : Addr} {od32 an32 : Option Addr} {sl32 : Array (Option Value)} {oc32 kV32 dc32 pm32 cd32 ct32 : Value}
    (a32 : PySem.W.nsIn K mainGlobals "law" = some (some (.ref f32))) (l32 : K.lookup f32 = some ⟨oc32, od32, .func (PySem.W.fnOf "law" "law" (defArgs s_law) (defBody s_law) (defScope s_law) .none kV32 dc32 pm32 an32 cd32 ct32), sl32⟩)
    (c32 : PySem.W.codeIn K cd32 "law" = true) (k32 : PySem.W.keepIn K (.ref f32) = true)
    (z0 : PySem.W.nsIn K mainGlobals "all" = some none)
    (z1 : PySem.W.nsIn K mainGlobals "bool" = some none)
    (z2 : PySem.W.nsIn K mainGlobals "enumerate" = some none)
    (z3 : PySem.W.nsIn K mainGlobals "int" = some none)
    (z4 : PySem.W.nsIn K mainGlobals "isinstance" = some none)
    (z5 : PySem.W.nsIn K mainGlobals "len" = some none)
    (z6 : PySem.W.nsIn K mainGlobals "list" = some none)
    (z7 : PySem.W.nsIn K mainGlobals "max" = some none)
    (z8 : PySem.W.nsIn K mainGlobals "range" = some none)
    (z9 : PySem.W.nsIn K mainGlobals "repr" = some none)
    (z10 : PySem.W.nsIn K mainGlobals "sorted" = some none)
    (z11 : PySem.W.nsIn K mainGlobals "sum" = some none)
    (z12 : PySem.W.nsIn K mainGlobals "tuple" = some none)
    (b0 : PySem.W.nsIn K mainGlobals "gcd" = some (some (.builtin "math.gcd")))
    (v0 : PySem.W.nsIn K mainGlobals "PRIMES" = some (some (.ref (He.ga K "PRIMES")))) (w0 : He.tupB K "PRIMES" (([2, 3, 5, 7, 11, 13, 17, 19, 23, 29] : List Int).map He.Dv.int) = true)
    {t1 : Tok} (v1 : PySem.W.nsIn K mainGlobals "MOST_BREADTH" = some (some (.int 3 t1)))
    {t2 : Tok} (v2 : PySem.W.nsIn K mainGlobals "MOST_PRIMES_MULTIPLIED" = some (some (.int 1000 t2)))
    : ∃ fd : FuncData, (∀ (s : Shared) (u : Value), BindsTo s fd ⟨[u], []⟩ [("_law_script", u)]) ∧ ∀ base : Heap, K.In base → base.Ns mainGlobals mg → GFn l.prog w K mg base 7 fa fd ["_law_script"] (sp_law K) := by
  obtain ⟨T⟩ := all_mk X G a0 l0 c0 k0 a1 l1 c1 k1 a2 l2 c2 k2 a3 l3 c3 k3 a4 l4 c4 k4 a5 l5 c5 k5 a6 l6 c6 k6 a7 l7 c7 k7 a8 l8 c8 k8 a9 l9 c9 k9 a10 l10 c10 k10 a11 l11 c11 k11 a12 l12 c12 k12 a13 l13 c13 k13 a14 l14 c14 k14 a15 l15 c15 k15 a16 l16 c16 k16 a17 l17 c17 k17 a18 l18 c18 k18 a19 l19 c19 k19 a20 l20 c20 k20 a21 l21 c21 k21 a22 l22 c22 k22 a23 l23 c23 k23 a24 l24 c24 k24 a25 l25 c25 k25 a26 l26 c26 k26 a27 l27 c27 k27 a28 l28 c28 k28 a29 l29 c29 k29 a30 l30 c30 k30 a31 l31 c31 k31 a32 l32 c32 k32 z0 z1 z2 z3 z4 z5 z6 z7 z8 z9 z10 z11 z12 b0 v0 w0 v1 v2
  obtain rfl := law_at T hfa
  exact ⟨_, law_binds T, fun base _ _ => ok_law T⟩
theorem law_want (K : PySem.W.Frag) (H : Hp) (a : Addr) (ns : List Int) (hl : ns.length ≤ 63) (hs : SqL K H a (ns.map V.int)) : sp_law K [.ref a] H (fun v _ => v = .bl true) E0 := ⟨a, ns, rfl, hs, hl, fun _ => rfl⟩
end KL
open PySem PySem.W PyProof.Rows
set_option maxHeartbeats 0 in
theorem PySem.Challenge.cw_slantpanes_k05_normal_forms_and_same_cel_holds : PySem.Challenge.rw_slantpanes_k05_normal_forms_and_same_cel.Holds := by
  w_on; o_law; k_head; (case hw => w_witness2)
  k_fill
  refine Kw.walk_G (l := PySem.Challenge.rw_slantpanes_k05_normal_forms_and_same_cel) (n := 63) (k := 7) (x := "_law_script") (sp := KL.sp_law) rfl (by decide) rfl ⟨rfl, by decide, by decide⟩ (fun w h Y => PySem.W.kIn_of Y) ?F KL.law_want
  case F =>
    intro w mg fa h KX G hmg
    refine' KL.all_end KX G hmg ?a0 ?l0 ?c0 ?k0 ?a1 ?l1 ?c1 ?k1 ?a2 ?l2 ?c2 ?k2 ?a3 ?l3 ?c3 ?k3 ?a4 ?l4 ?c4 ?k4 ?a5 ?l5 ?c5 ?k5 ?a6 ?l6 ?c6 ?k6 ?a7 ?l7 ?c7 ?k7 ?a8 ?l8 ?c8 ?k8 ?a9 ?l9 ?c9 ?k9 ?a10 ?l10 ?c10 ?k10 ?a11 ?l11 ?c11 ?k11 ?a12 ?l12 ?c12 ?k12 ?a13 ?l13 ?c13 ?k13 ?a14 ?l14 ?c14 ?k14 ?a15 ?l15 ?c15 ?k15 ?a16 ?l16 ?c16 ?k16 ?a17 ?l17 ?c17 ?k17 ?a18 ?l18 ?c18 ?k18 ?a19 ?l19 ?c19 ?k19 ?a20 ?l20 ?c20 ?k20 ?a21 ?l21 ?c21 ?k21 ?a22 ?l22 ?c22 ?k22 ?a23 ?l23 ?c23 ?k23 ?a24 ?l24 ?c24 ?k24 ?a25 ?l25 ?c25 ?k25 ?a26 ?l26 ?c26 ?k26 ?a27 ?l27 ?c27 ?k27 ?a28 ?l28 ?c28 ?k28 ?a29 ?l29 ?c29 ?k29 ?a30 ?l30 ?c30 ?k30 ?a31 ?l31 ?c31 ?k31 ?a32 ?l32 ?c32 ?k32 ?z0 ?z1 ?z2 ?z3 ?z4 ?z5 ?z6 ?z7 ?z8 ?z9 ?z10 ?z11 ?z12 ?b0 ?v0 ?w0 ?v1 ?v2
    (case a0 => k_is)
    (case l0 => k_is)
    (case c0 => k_is)
    (case k0 => k_is)
    (case a1 => k_is)
    (case l1 => k_is)
    (case c1 => k_is)
    (case k1 => k_is)
    (case a2 => k_is)
    (case l2 => k_is)
    (case c2 => k_is)
    (case k2 => k_is)
    (case a3 => k_is)
    (case l3 => k_is)
    (case c3 => k_is)
    (case k3 => k_is)
    (case a4 => k_is)
    (case l4 => k_is)
    (case c4 => k_is)
    (case k4 => k_is)
    (case a5 => k_is)
    (case l5 => k_is)
    (case c5 => k_is)
    (case k5 => k_is)
    (case a6 => k_is)
    (case l6 => k_is)
    (case c6 => k_is)
    (case k6 => k_is)
    (case a7 => k_is)
    (case l7 => k_is)
    (case c7 => k_is)
    (case k7 => k_is)
    (case a8 => k_is)
    (case l8 => k_is)
    (case c8 => k_is)
    (case k8 => k_is)
    (case a9 => k_is)
    (case l9 => k_is)
    (case c9 => k_is)
    (case k9 => k_is)
    (case a10 => k_is)
    (case l10 => k_is)
    (case c10 => k_is)
    (case k10 => k_is)
    (case a11 => k_is)
    (case l11 => k_is)
    (case c11 => k_is)
    (case k11 => k_is)
    (case a12 => k_is)
    (case l12 => k_is)
    (case c12 => k_is)
    (case k12 => k_is)
    (case a13 => k_is)
    (case l13 => k_is)
    (case c13 => k_is)
    (case k13 => k_is)
    (case a14 => k_is)
    (case l14 => k_is)
    (case c14 => k_is)
    (case k14 => k_is)
    (case a15 => k_is)
    (case l15 => k_is)
    (case c15 => k_is)
    (case k15 => k_is)
    (case a16 => k_is)
    (case l16 => k_is)
    (case c16 => k_is)
    (case k16 => k_is)
    (case a17 => k_is)
    (case l17 => k_is)
    (case c17 => k_is)
    (case k17 => k_is)
    (case a18 => k_is)
    (case l18 => k_is)
    (case c18 => k_is)
    (case k18 => k_is)
    (case a19 => k_is)
    (case l19 => k_is)
    (case c19 => k_is)
    (case k19 => k_is)
    (case a20 => k_is)
    (case l20 => k_is)
    (case c20 => k_is)
    (case k20 => k_is)
    (case a21 => k_is)
    (case l21 => k_is)
    (case c21 => k_is)
    (case k21 => k_is)
    (case a22 => k_is)
    (case l22 => k_is)
    (case c22 => k_is)
    (case k22 => k_is)
    (case a23 => k_is)
    (case l23 => k_is)
    (case c23 => k_is)
    (case k23 => k_is)
    (case a24 => k_is)
    (case l24 => k_is)
    (case c24 => k_is)
    (case k24 => k_is)
    (case a25 => k_is)
    (case l25 => k_is)
    (case c25 => k_is)
    (case k25 => k_is)
    (case a26 => k_is)
    (case l26 => k_is)
    (case c26 => k_is)
    (case k26 => k_is)
    (case a27 => k_is)
    (case l27 => k_is)
    (case c27 => k_is)
    (case k27 => k_is)
    (case a28 => k_is)
    (case l28 => k_is)
    (case c28 => k_is)
    (case k28 => k_is)
    (case a29 => k_is)
    (case l29 => k_is)
    (case c29 => k_is)
    (case k29 => k_is)
    (case a30 => k_is)
    (case l30 => k_is)
    (case c30 => k_is)
    (case k30 => k_is)
    (case a31 => k_is)
    (case l31 => k_is)
    (case c31 => k_is)
    (case k31 => k_is)
    (case a32 => k_is)
    (case l32 => k_is)
    (case c32 => k_is)
    (case k32 => k_is)
    (case z0 => k_is)
    (case z1 => k_is)
    (case z2 => k_is)
    (case z3 => k_is)
    (case z4 => k_is)
    (case z5 => k_is)
    (case z6 => k_is)
    (case z7 => k_is)
    (case z8 => k_is)
    (case z9 => k_is)
    (case z10 => k_is)
    (case z11 => k_is)
    (case z12 => k_is)
    (case b0 => k_is)
    (case v0 => k_is)
    (case w0 => kernel_rfl)
    (case v1 => k_is)
    (case v2 => k_is)
