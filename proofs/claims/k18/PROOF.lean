import PyProof.Rows.All
import Wide.All
import OpenK.AllK
import Wide.FinOn
import PySem.Challenge.RW_matchgift_k18_odd_ones_and_twos
import HandS.WideBits
import PyProof.Rows.BitMore
import HandS.ForMost
import HandS.IsInst
import HandS.TupAny
import HandS.TupMul
import HandS.Wide
import HandS.Flow
import HandS.RaiseMore
import PyProof.ReprRoads
import KE.GoesNew
import KE.KTupSum
import HandS.Walk
import HandS.Zip
set_option Elab.async false
set_option linter.all false
set_option maxRecDepth 100000
set_option maxHeartbeats 2000000
/-! MG: twos, greatest common parts -/
namespace MG
open PySem

/-- how often 2 parts n (0 of 0) -/
def v2 (n : Nat) : Nat := if h : n = 0 then 0 else if n % 2 = 1 then 0 else v2 (n / 2) + 1
termination_by n
decreasing_by omega
theorem v2_odd {n : Nat} (h : n % 2 = 1) : v2 n = 0 := by
  rw [v2]
  simp [h]
theorem v2_even {n : Nat} (h0 : n ≠ 0) (h : n % 2 = 0) : v2 n = v2 (n / 2) + 1 := by
  rw [v2]
  rw [dif_neg h0, if_neg (by omega)]
theorem v2_mul2 {n : Nat} (h0 : n ≠ 0) : v2 (2 * n) = v2 n + 1 := by
  rw [v2_even (by omega) (by omega), show 2 * n / 2 = n by omega]
/-- n & (n - 1) takes the last one away -/
theorem land_pred : ∀ n : Nat, 0 < n → (n &&& (n - 1)) + 2 ^ v2 n = n := by
  intro n
  induction n using Nat.strongRecOn with
  | ind n ih =>
    intro hn
    have hd : (n &&& (n - 1)) / 2 = n / 2 &&& (n - 1) / 2 := Nat.and_div_two ..
    have hm := Nat.and_mod_two_eq_one (a := n) (b := n - 1)
    have hsplit := Nat.div_add_mod (n &&& (n - 1)) 2
    rcases Nat.mod_two_eq_zero_or_one n with h | h
    · have h2 : (n - 1) / 2 = n / 2 - 1 := by omega
      have hq : 0 < n / 2 := by omega
      have := ih (n / 2) (by omega) hq
      rw [h2] at hd
      have hz : (n &&& (n - 1)) % 2 = 0 := by
        rcases Nat.mod_two_eq_zero_or_one (n &&& (n - 1)) with z | z
        · exact z
        · have := (hm.mp z).1
          omega
      rw [v2_even (by omega) h, Nat.pow_succ]
      omega
    · have h2 : (n - 1) / 2 = n / 2 := by omega
      rw [h2, Nat.and_self] at hd
      have hz : (n &&& (n - 1)) % 2 = 0 := by
        rcases Nat.mod_two_eq_zero_or_one (n &&& (n - 1)) with z | z
        · exact z
        · have := (hm.mp z).2
          omega
      rw [v2_odd h]
      show _ + 1 = n
      omega
theorem low_bit {n : Int} (h : 0 < n) : Builtin.bitAnd n (-n) = 2 ^ v2 n.toNat := by
  have e : Builtin.bitNot (-n) = n - 1 := by
    show -(-n) - 1 = n - 1
    omega
  rw [PyProof.Rows.bitAnd_pn (by omega) (by omega), e]
  have h1 := land_pred n.toNat (by omega)
  have h2 : (n - 1).toNat = n.toNat - 1 := by omega
  rw [h2]
  have h3 : ((n.toNat &&& (n.toNat - 1) : Nat) : Int) + ((2 ^ v2 n.toNat : Nat) : Int) = n := by
    rw [← Int.natCast_add, h1]
    omega
  rw [show ((2 ^ v2 n.toNat : Nat) : Int) = 2 ^ v2 n.toNat from by rw [Int.natCast_pow]; rfl] at h3
  omega
theorem bits_pow (k : Nat) : (Builtin.Int.intBits ((2 : Int) ^ k) : Nat) = k + 1 := by
  unfold Builtin.Int.intBits
  have h0 : ((2 : Int) ^ k == 0) = false := by
    refine beq_eq_false_iff_ne.mpr ?_
    have : (0 : Int) < 2 ^ k := Int.pow_pos (by decide)
    omega
  rw [h0]
  have h1 : ((2 : Int) ^ k).natAbs = 2 ^ k := by
    rw [Int.natAbs_pow]
    rfl
  rw [if_neg Bool.false_ne_true, h1, Nat.log2_two_pow]
theorem pow_v2_dvd : ∀ n : Nat, 2 ^ v2 n ∣ n := by
  intro n
  induction n using Nat.strongRecOn with
  | ind n ih =>
    by_cases h0 : n = 0
    · subst h0; exact Nat.dvd_zero _
    · rcases Nat.mod_two_eq_zero_or_one n with h | h
      · rw [v2_even h0 h, Nat.pow_succ]
        have h1 := ih (n / 2) (by omega)
        have h2 : n = n / 2 * 2 := by omega
        rw [h2]
        exact Nat.mul_dvd_mul_right (by rw [show n / 2 * 2 / 2 = n / 2 by omega]; exact h1) 2
      · rw [v2_odd h]; exact Nat.one_dvd _
theorem v2_unique {n k m : Nat} (h : n = 2 ^ k * m) (hm : m % 2 = 1) : v2 n = k := by
  induction k generalizing n with
  | zero =>
    rw [Nat.pow_zero, Nat.one_mul] at h
    rw [h]; exact v2_odd hm
  | succ k ih =>
    have h0 : 2 ^ k * m ≠ 0 := by
      intro z
      rcases Nat.mul_eq_zero.mp z with z | z
      · exact absurd z (Nat.pos_iff_ne_zero.mp (Nat.two_pow_pos k))
      · omega
    rw [h, Nat.pow_succ, Nat.mul_comm (2 ^ k) 2, Nat.mul_assoc, v2_mul2 h0, ih rfl]
theorem odd_rest {n : Nat} (h : 0 < n) : n / 2 ^ v2 n % 2 = 1 := by
  induction n using Nat.strongRecOn with
  | ind n ih =>
    rcases Nat.mod_two_eq_zero_or_one n with z | z
    · rw [v2_even (by omega) z, Nat.pow_succ, Nat.mul_comm, ← Nat.div_div_eq_div_mul]
      exact ih (n / 2) (by omega) (by omega)
    · rw [v2_odd z, Nat.pow_zero, Nat.div_one]; exact z
theorem v2_split {n : Nat} (h : 0 < n) : n = 2 ^ v2 n * (n / 2 ^ v2 n) := (Nat.mul_div_cancel' (pow_v2_dvd n)).symm
theorem pow_dvd_iff {n k : Nat} (h : 0 < n) : 2 ^ k ∣ n ↔ k ≤ v2 n := by
  constructor
  · intro hd
    refine Nat.le_of_not_lt fun hlt => ?_
    have h1 : 2 ^ (v2 n + 1) ∣ n := Nat.dvd_trans (Nat.pow_dvd_pow 2 hlt) hd
    obtain ⟨c, hc⟩ := h1
    have h2 := odd_rest h
    have h3 : n / 2 ^ v2 n = 2 * c := by
      rw [hc]
      rw [← hc]
      have : n = 2 ^ v2 n * (2 * c) := by rw [← Nat.mul_assoc, ← Nat.pow_succ]; exact hc
      exact Nat.div_eq_of_eq_mul_right (Nat.two_pow_pos _) this
    omega
  · intro hk
    exact Nat.dvd_trans (Nat.pow_dvd_pow 2 hk) (pow_v2_dvd n)

/-- the greatest number that parts all -/
def gl : List Int → Nat
  | [] => 0
  | n :: r => Nat.gcd n.toNat (gl r)
theorem gl_append : ∀ (a b : List Int), gl (a ++ b) = Nat.gcd (gl a) (gl b)
  | [], b => by rw [List.nil_append, gl, Nat.gcd_zero_left]
  | n :: r, b => by rw [List.cons_append, gl, gl_append r b, gl, Nat.gcd_assoc]
theorem gl_perm {a b : List Int} (h : a.Perm b) : gl a = gl b := by
  induction h with
  | nil => rfl
  | cons x _ ih => rw [gl, gl, ih]
  | swap x y l => rw [gl, gl, gl, gl, ← Nat.gcd_assoc, ← Nat.gcd_assoc, Nat.gcd_comm y.toNat x.toNat]
  | trans _ _ ih1 ih2 => rw [ih1, ih2]
theorem gl_zeros : ∀ k : Nat, gl (List.replicate k 0) = 0
  | 0 => rfl
  | k + 1 => by rw [List.replicate_succ, gl, gl_zeros k]; rfl
theorem gl_dvd : ∀ {l : List Int} {n : Int}, n ∈ l → gl l ∣ n.toNat
  | m :: r, n, h => by
    rcases List.mem_cons.mp h with rfl | h
    · exact Nat.gcd_dvd_left _ _
    · exact Nat.dvd_trans (Nat.gcd_dvd_right _ _) (gl_dvd h)
theorem gl_pos : ∀ {l : List Int} {n : Int}, n ∈ l → 0 < n → 0 < gl l := fun {l n} h hn =>
  Nat.pos_of_ne_zero fun z => by
    have := gl_dvd h
    rw [z] at this
    have := Nat.eq_zero_of_zero_dvd this
    omega
theorem gl_le {l : List Int} {n : Int} (h : n ∈ l) (hn : 0 < n) : (gl l : Int) ≤ n := by
  have := Nat.le_of_dvd (by omega) (gl_dvd h)
  omega
theorem gl_mul (c : Int) (hc : 0 ≤ c) : ∀ {l : List Int}, (∀ n ∈ l, 0 ≤ n) → gl (l.map fun n => c * n) = c.toNat * gl l
  | [], _ => rfl
  | n :: r, h => by
    rw [List.map_cons, gl, gl, gl_mul c hc fun m hm => h m (List.mem_cons_of_mem _ hm), ← Nat.gcd_mul_left, Int.toNat_mul hc (h n List.mem_cons_self)]
theorem gl_filter : ∀ l : List Int, gl (l.filter fun n => decide (n > 0)) = gl l
  | [] => rfl
  | n :: r => by
    by_cases h : n > 0
    · rw [List.filter_cons_of_pos (by simpa using h), gl, gl, gl_filter r]
    · rw [List.filter_cons_of_neg (by simpa using h), gl_filter r, gl, show n.toNat = 0 by omega, Nat.gcd_zero_left]
/-- how many are parted by 2 no oftener than t -/
def fewT (t : Nat) (l : List Int) : List Int := l.filter fun n => decide (n > 0) && decide (v2 n.toNat ≤ t)
theorem fewT_perm {t : Nat} {a b : List Int} (h : a.Perm b) : (fewT t a).length = (fewT t b).length := (h.filter _).length_eq
theorem fewT_zeros (t k : Nat) : fewT t (List.replicate k 0) = [] := by
  unfold fewT
  refine List.filter_eq_nil_iff.mpr fun n hn => ?_
  rw [List.eq_of_mem_replicate hn]
  simp
end MG

/-! MG: promises of defs that are called where no repr is under way, and repr of data by them. -/
namespace MG
open PySem PySem.Spec PyProof.Rows L2

structure FnG (P : Program) (w : World) (K : PySem.W.Frag) (mg : Str → Option Value) (base : Heap) (k : Nat)
    (f : Addr) (fd : FuncData) (ps : List Str) (sp : Sp) : Prop where
  len : ∀ vs H Q E, sp vs H Q E → vs.length = ps.length
  run : ∀ (A : Around) (outer : List Env) (s : Shared) (H : Hp) (args : Args) (us : List Value) (vs : List V) (Q : VK) (E : XK),
    A.guards = some [] → Room k A → Env0 P w K mg base A outer s H →
    BindsTo s fd args (ps.zip us) → Vals vs us → sp vs H Q E →
    codeAny (model P w) A (.call (.ref f) args) (CR CX0 outer P w H s Q E) s

section
variable {P : Program} {w : World} {K : PySem.W.Frag} {mg : Str → Option Value} {base : Heap}
theorem FnG.of {k : Nat} {f : Addr} {fd : FuncData} {ps : List Str} {sp : Sp}
    (F : FnOk P w K mg base CX0 k f fd ps sp) : FnG P w K mg base k f fd ps sp :=
  ⟨F.len, fun A outer s H args us vs Q E _ => F.run A outer s H args us vs Q E⟩

theorem okG {x qual : Str} {st : Stmt} {f : Addr} {fd : FuncData} {N ps : List Str} {k : Nat} {sp : Sp}
    (F : Fun K x qual st f fd) (S : FnScope N ps (defScope st))
    (hlen : ∀ vs H Q E, sp vs H Q E → vs.length = ps.length)
    (body : ∀ (cdv : Value) (A : Around) (outer : List Env) (s : Shared) (H : Hp) (vs : List V) (Q : VK) (E : XK),
      A.guards = some [] → Room k (A.deeper (envOfC qual (defScope st) s.heap.objs.size f cdv)) → sp vs H Q E →
      ∃ t, PSs (cxOf CX0 P w K mg base N qual (defScope st) f cdv A outer s H E).nox (defBody st) t ∧
        t { nx := fun _ H' => Q .non H', rt := Q } (start N vs) H) :
    FnG P w K mg base (k + 1) f fd ps sp := by
  obtain ⟨oc, od, kV, doc, pm, an, cdv, ct, osl, rfl, lk, hcd⟩ := F.ex
  refine ⟨hlen, ?_⟩
  intro A outer s H args us vs Q E gd room e0 bnd rel want
  have inK : K.In s.heap := e0.mod.kin.keeps (fun b o q => (e0.bs b o q).left)
  have noLim : s.heap.NoLimit := e0.mod.nolimit.keeps (fun b o q => (e0.bs b o q).left)
  refine codeAny_call_function room.depth (inK _ _ lk) rfl S.co S.gen rfl
    (PySem.W.codeRec_of inK hcd) (bnd _ _ _ _ ?_)
  refine wpAny_newFunctionEnv_cells S.kind ?_ ?_
  · rintro ⟨n, v⟩ hy
    rcases S.par n (List.of_mem_zip hy).1 with loc | cel
    · exact Or.inl loc
    · exact Or.inr ⟨cel, PySem.W.cellsFrom_some _ _ _ (Or.inl cel)⟩
  · intro env he s1 x
    subst he
    refine ⟨noLim.keeps x.toInCall.keep, codeAny_func ?_⟩
    obtain ⟨t, ht0, hq⟩ := body cdv A outer s H vs Q E gd (room.deeper _) want
    have ht := ht0.nox
    have I := inv_start (CX := CX0) (N := N) (qual := qual) (f := f) (cd := cdv) (E := E) S room.hd e0 (hlen _ _ _ _ want) rel x
    refine wpAny_mono (ht.run [] s1 (start N vs) H _ I hq) ?_ (fun _ _ z => z)
    intro fl s' hs
    cases fl with
    | ret u =>
      obtain ⟨v, σ', H', J, rv, q⟩ := hs
      exact ⟨v, H', J.os, J.bare, J.base, J.hok, rv, q⟩
    | next =>
      obtain ⟨σ', H', J, q⟩ := hs
      exact ⟨V.non, H', J.os, J.bare, J.base, J.hok, rfl, q⟩
    | brk =>
      obtain ⟨_, _, _, q⟩ := hs
      exact q.elim
    | cont =>
      obtain ⟨_, _, _, q⟩ := hs
      exact q.elim
end

section
variable {X : Cx} {k : Nat} {f : Addr} {fd : FuncData} {ps : List Str} {sp : Sp} {E : XK} {x : Str} {p pos : Pos}
  {e : Expr} {es : List Expr} {t : TA}
/-- f(e, ..) of such a def -/
theorem pe_callG (F : FnG X.prog X.w X.K X.mg X.base k f fd ps sp) (gd : X.A.guards = some []) (hr : Room k X.A) (hg : Gl X x)
    (hm : X.mg x = some (.ref f)) (hk : PySem.W.keepIn X.K (.ref f) = true) (hb : Binds X.K fd ps []) (ha : PA X (e :: es) t)
    (hdb : (x == ("__debug__" : Str)) = false := by decide)
    (he : starEach (e :: es) X.env = (false, eval e X.env) :: starEach es X.env := by rfl)
    (hpl : (backTo pos (starEach es X.env)).any (·.1) = false := by rfl) :
    PE X (.Call (.Name x p) (e :: es) [] pos) (tCall sp [] E t) := by
  constructor
  intro pins s σ H Q I h
  refine wpAny_Call_Name_kw (ld_glob I hg hm ?_ hdb)
  refine PySem.W.callWith_K (h₀ := X.base) I.ok.mod.kin hk ?_ he hpl
  refine thn (ha.run pos pins s σ H _ I h) ?_
  rintro us s1 ⟨vs, H1, I1, r, q⟩
  refine ⟨I1.kIn, ?_⟩
  have q' : sp (vs ++ []) H1 Q E := q
  rw [List.append_nil] at q'
  have hl : us.length = ps.length := by
    rw [← r.length]
    exact F.len _ _ _ _ q'
  have hb' := hb s1 us I1.kIn (by simpa using hl)
  rw [List.append_nil] at hb'
  refine wpAny_call (codeAny_mono (F.run X.A X.stack s1 H1 ⟨us, []⟩ us vs Q E gd hr I1.env0 hb' r q') ?_)
  intro res s' hq
  cases res with
  | error e => exact False.elim hq
  | ok fl =>
    cases fl with
    | ret u => exact I1.after hq
    | next => exact False.elim hq
    | brk => exact False.elim hq
    | cont => exact False.elim hq
end
end MG

namespace MG
open PySem PySem.Spec PyProof.Rows L2

def SysD (h : Heap) : Prop := ∃ mm, h.Ns sysModules mm
theorem lawG {P : Program} {w : World} {K : PySem.W.Frag} {mg mb : Str → Option Value} {k : Nat} {fa a : Addr} {fd : FuncData} {x : Str}
    {sp : Sp} {s₁ : Shared} {vs : List Value} {ns : List Int}
    (KX : K.In s₁.heap) (hns : s₁.heap.Ns mainGlobals mg) (hb : s₁.heap.Ns builtinsNs mb)
    (hbb : ∀ x : Str, x ≠ "__name__" → mb x = bootBuiltins x) (hlim : s₁.heap.NoLimit) (hsys : SysD s₁.heap) (hg : s₁.gens = #[])
    (ha : s₁.heap.get? a = some { cls := .type "list", data := .seq vs.toArray }) (hi : IntsAre vs ns)
    (hl : ns.length ≤ sizeLine) (hr : Room k callerA)
    (F : ∀ base : Heap, K.In base → base.Ns mainGlobals mg → SysD base → FnG P w K mg base k fa fd [x] sp)
    (hbind : ∀ (s : Shared) (u : Value), BindsTo s fd ⟨[u], []⟩ [(x, u)])
    (hsp : ∀ H : Hp, Only H → SqL K H a (ns.map V.int) → sp [.ref a] H (fun v _ => v = .bl true) fun _ _ _ => False) :
    codeAny (model P w) callerA (.call (.ref fa) ⟨[.ref a], []⟩)
      (fun r s' => r = .ok (.ret (.bool true)) ∧ OldK s₁.heap s'.heap ∧ s'.os = s₁.os ∧ AllBare s'.gens) s₁ := by
  have rels := vals_ints hi
  have sizes := hi.length
  have go : ∀ H : Hp, Only H → SqL K H a (ns.map V.int) → HOk P w H s₁.heap → (∀ b, H b ≠ none → b = a) →
      (H a ≠ none → K.lookup a = none) →
      codeAny (model P w) callerA (.call (.ref fa) ⟨[.ref a], []⟩)
        (fun r s' => r = .ok (.ret (.bool true)) ∧ OldK s₁.heap s'.heap ∧ s'.os = s₁.os ∧ AllBare s'.gens) s₁ := by
    intro H only sq ok justA noK
    have dictFree : ∀ {b : Addr} {o : Obj} {es : Array DictEntry} {ep : Nat}, s₁.heap.get? b = some o → o.data = .dict es ep → H b = none := by
      intro b o es ep hget hdat
      cases hH : H b with
      | none => rfl
      | some u =>
        obtain rfl : b = a := justA b (by rw [hH]; exact fun z => nomatch z)
        rw [ha] at hget
        cases hget
        exact (nomatch (show Data.seq vs.toArray _ = Data.dict es ep from hdat))
    have nsHid : ∀ {b : Addr} {m : Str → Option Value}, s₁.heap.Ns b m → (hidT s₁.heap H).Ns b m := by
      rintro b m ⟨o, es, ep, h1, h2, h3⟩
      exact ⟨o, es, ep, hidT_get h1 (dictFree h1 h2), h2, h3⟩
    have kHid : K.In (hidT s₁.heap H) := by
      intro b o look
      refine hidT_get (KX b o look) ?_
      cases hH : H b with
      | none => rfl
      | some u =>
        obtain rfl : b = a := justA b (by rw [hH]; exact fun z => nomatch z)
        have z := noK (by rw [hH]; exact fun z => nomatch z)
        rw [z] at look
        cases look
    have modl : Mod K mg (hidT s₁.heap H) := by
      obtain ⟨mc, l1, l2⟩ := hlim
      exact ⟨kHid, nsHid hns, ⟨mb, nsHid hb, hbb⟩, ⟨mc, nsHid l1, l2⟩⟩
    have e0 : Env0 P w K mg (hidT s₁.heap H) callerA [] s₁ H :=
      { frames := rfl
        mod := modl
        bs := fun b o q => of_hidT q
        bsz := Nat.le_of_eq (hidT_size _ _)
        funs := trivial
        frf := fun b hb => absurd (show b ∈ ([] : List Addr) from hb) List.not_mem_nil
        hok := ok
        bare := .of_eq hg }
    refine codeAny_mono ((F _ kHid (nsHid hns) (let ⟨mm, q⟩ := hsys; ⟨mm, nsHid q⟩)).run callerA [] s₁ H ⟨[.ref a], []⟩ [.ref a] [.ref a] _ _ rfl hr e0
      (hbind s₁ (.ref a)) (.cons rfl .nil) (hsp H only sq)) ?_
    intro r s' h
    cases r with
    | error e => exact False.elim h
    | ok fl =>
      cases fl with
      | next => exact False.elim h
      | brk => exact False.elim h
      | cont => exact False.elim h
      | ret u =>
        obtain ⟨v, H', hos, hbare, un, ok', rel, q⟩ := h
        obtain rfl : v = .bl true := q
        obtain rfl : u = Value.bool true := rel
        refine ⟨rfl, OldK.of_keep ?_, hos, hbare⟩
        intro b o hget
        rcases only b with hn | ⟨ob, xs, hf⟩
        · exact un.keep b o hget hn (fun z => absurd (show b ∈ ([] : List Addr) from z) List.not_mem_nil) List.not_mem_nil
        · have q1 := (ok b _ hf).1
          have q2 := (ok' b _ (un.frzs b ob _ hf)).1
          rw [hget] at q1
          cases q1
          exact q2
  cases hk : K.lookup a with
  | none =>
    let ob : Obj := { cls := .type "list", data := .seq vs.toArray }
    let H : Hp := fun b => if b = a then some (.frz ob (.lst (ns.map V.int))) else none
    have atA : H a = some (.frz ob (.lst (ns.map V.int))) := if_pos rfl
    have off : ∀ b, b ≠ a → H b = none := fun b hb => if_neg hb
    refine go H ?_ (.inl (.inr ⟨ob, atA⟩)) ?_ ?_ (fun _ => hk)
    · intro b
      by_cases hb : b = a
      · subst hb; exact .inr ⟨_, _, atA⟩
      · exact .inl (off b hb)
    · intro b u z
      by_cases hb : b = a
      · subst hb
        rw [atA] at z
        cases z
        exact ⟨ha, by rw [List.length_map]; exact hl, vs, _, rels, ha⟩
      · rw [off b hb] at z
        cases z
    · intro b z
      by_cases hb : b = a
      · exact hb
      · exact absurd (off b hb) z
  | some o =>
    have e := KX a o hk
    rw [ha] at e
    cases e
    exact go (fun _ => none) (fun _ => .inl rfl)
      (.inr ⟨_, vs.toArray, _, hk, rfl, rfl, rfl, by rw [List.size_toArray, sizes]; exact hl, by simpa using rels⟩)
      (fun b u z => nomatch (show (none : Option HO) = some u from z)) (fun b z => absurd rfl z) (fun z => absurd rfl z)

theorem walkG {l : PySem.W.OpenLaw} {n k : Nat} {q : Program} {loose : List Str} {XP : (Str → Option Value) → Heap → Prop}
    {YP : World → Heap → Prop} {d : DefRec} {K : Params → PySem.W.Frag} {sp : PySem.W.Frag → Sp} {x : Str}
    (hn : l.most = some n) (hn2 : n ≤ sizeLine) (hdf : d.params.defaults = []) (hr : Room k callerA) (hq : importsNone q = true)
    (hY : ∀ (w : World) (h : Heap), YP w h → (K w.params).In h)
    (F : ∀ (w : World) (mg : Str → Option Value) (fa : Addr) (h : Heap), (K w.params).In h → h.Ns mainGlobals mg → mg d.name = some (.ref fa) →
      ∃ fd : FuncData, (∀ (s : Shared) (u : Value), BindsTo s fd ⟨[u], []⟩ [(x, u)]) ∧
        ∀ base : Heap, (K w.params).In base → base.Ns mainGlobals mg → SysD base → FnG l.prog w (K w.params) mg base k fa fd [x] (sp (K w.params)))
    (hsp : ∀ (K : PySem.W.Frag) (H : Hp) (a : Addr) (ns : List Int), ns.length ≤ n → Only H → SqL K H a (ns.map V.int) →
      sp K [.ref a] H (fun v _ => v = .bl true) fun _ _ _ => False) :
    PySem.W.WalkO q loose XP YP l.row.toRowW d [] (fun f vs => PySem.call f vs) := by
  refine Att.attach_call hn hdf ?_
  intro w s₀ s₁ mg mb fa o pm cd doc a vs ns G Y _ _ _ hmg hobj hints hlen hg
  have KX := hY w _ Y
  obtain ⟨fd, hbd, hF⟩ := F w mg fa _ KX G.T.g hmg
  exact lawG KX G.T.g G.T.b G.T.builtins G.T.nolimit (let ⟨mm, q, _⟩ := (G.T.seer hq).mods; ⟨mm, q⟩) hg hobj hints (Nat.le_trans hlen hn2) hr hF hbd
    (fun H hO hS => hsp _ H a ns hlen hO hS)
end MG

namespace MG
open PySem PySem.Spec PyProof.Rows L2

/-- behind enumerate(v): v's iterator, and who counts beside it -/
abbrev counts (g : Heap) (o : Obj) : Heap :=
  (g.push o).push { cls := .type "enumerate", data := .fields #[.none, .bool false, .ref g.objs.size, rawInt 0, .none, .none] }
theorem counts_new {v : Value} {o : Obj} {S : Heap → Prop} (B : Begins v o S) :
    PySem.Meets (Builtin.«enumerate.__new__» ⟨[.type "enumerate", v], []⟩) (fun _ R s =>
      S s.heap ∧ R (.ok (.ret (.ref (s.heap.push o).objs.size))) { s with heap := counts s.heap o }) := by
  refine .of_wp fun prog w A R s want => ?_
  obtain ⟨g, gens, drawn, tk, os⟩ := s
  have own := sub_enumerate
  have begun : ∀ {A' : Around} {Q E' : Value → Shared → Prop}, Q (.ref g.objs.size) ⟨g.push o, gens, drawn, tk, os⟩ →
      wpAny (model prog w) A' (pyIter v) Q E' ⟨g, gens, drawn, tk, os⟩ := fun q => B.iter _ _ _ _ _ _ want.1 q
  wp_walk using begun
  refine wpAny_stack_any fun top => wpAny_pure ?_
  split
  case h_1 c _ _ _ _ _ =>
    cases c == Value.type "enumerate" <;> (wp_walk using begun; exact ⟨_, rfl, want.2⟩)
  case h_2 =>
    wp_walk using begun
    exact ⟨_, rfl, want.2⟩
theorem counts_call {prog : Program} {w : World} {A : Around} {E : Value → Shared → Prop} {s : Shared} {v : Value} {o : Obj} {S : Heap → Prop}
    {Q : Value → Shared → Prop} (B : Begins v o S) (ready : S s.heap)
    (next : ∀ g, IsEnum g (s.heap.objs.size + 1) s.heap.objs.size 0 .none → g.get? s.heap.objs.size = some o →
      (∀ b u, s.heap.get? b = some u → g.get? b = some u) → Q (.ref (s.heap.objs.size + 1)) { s with heap := g }) :
    wpAny (model prog w) A (call (.type "enumerate") [v]) Q E s := by
  have up : (s.heap.push o).objs.size = s.heap.objs.size + 1 := Heap.size_push ..
  have first : (counts s.heap o).get? s.heap.objs.size = some o := Heap.get?_push_of_some _ (Heap.get?_push_size _ B.free)
  have second : (counts s.heap o).get? (s.heap.push o).objs.size = _ := Heap.get?_push_size _ rfl
  have rest : ∀ b u, s.heap.get? b = some u → (counts s.heap o).get? b = some u := fun _ _ at_ =>
    Heap.get?_push_of_some _ (Heap.get?_push_of_some _ at_)
  rw [up] at second
  refine callType_new F.called_enumerate (by decide) (F.typeCall_enumerate_1 v) (F.newCall_enumerate_1 v)
    (fun obj => F.args_object_init_2 obj v) F.entry_enumerate_new (counts_new B) ⟨ready, ?_⟩
  rw [up]
  exact ⟨⟨_, second, rfl⟩, next _ second first rest⟩
/-! ### walks that tell a new tuple each time -/
theorem not_tuple {g : Heap} {b c : Addr} {o : Obj} {items : Array Value} (t : IsTup g b items) (at_ : g.get? c = some o) (cls : o.cls ≠ .type "tuple") : b ≠ c := by
  obtain ⟨u, here, k, _⟩ := t
  intro e
  rw [e, at_] at here
  exact cls (by rw [Option.some.inj here]; exact k)
section told
variable {X : Cx} {pins : List (Addr × Obj)} {σ : L2.St} {H : Hp} {s : Shared} {ours : List Addr} {g : Heap} {tk : Nat}
/-- behind a walk's step: the tuple at T is new, our own objects are still nobody's -/
theorem told_new {T : Addr} {xs : List V} {us : List Value} (I : Inv X pins σ H s) (own : ∀ b ∈ ours, FpOk X pins H b)
    (live : ∀ b ∈ ours, ∃ o, s.heap.get? b = some o) (off : ∀ b o, b ∉ ours → s.heap.get? b = some o → g.get? b = some o)
    (new : s.heap.objs.size ≤ T) (made : IsTup g T us.toArray) (rel : Vals xs us) (few : xs.length ≤ sizeLine) :
    Inv X pins σ (upd H T (.tup xs)) { s with heap := g, toks := tk } ∧ H T = none ∧ ∀ b ∈ ours, upd H T (.tup xs) b = none :=
  ⟨I.turnedNew off own new ⟨few, us, rel, made⟩, I.hok.fresh new, fun b hb => by
    obtain ⟨o, at_⟩ := live b hb
    rw [upd_ne (Nat.ne_of_lt (Nat.lt_of_lt_of_le (Heap.lt_size at_) new))]
    exact (own b hb).1⟩
end told

/-! ### enumerate of a tuple -/
def IteT (K : PySem.W.Frag) (a : Addr) : It :=
  ⟨fun i H => ∃ (xs : List V) (x : V), SqT K H a xs ∧ xs[i]? = some x,
   fun i H v H' => ∃ T x, v = .ref T ∧ H T = none ∧ H' = upd H T (.tup [.int (i : Nat), x]) ∧ ∀ xs, SqT K H a xs → xs[i]? = some x,
   fun i H => ∃ xs : List V, SqT K H a xs ∧ xs.length = i⟩
/-- who counts at e, over the iterator at t of the tuple at a, i told -/
def EnT (a e t : Addr) (i : Nat) (g : Heap) : Prop := (∃ old, IsEnum g e t (i : Nat) old) ∧ g.IsTupleIter t a i ∧ e ≠ t
theorem EnT.live {a e t : Addr} {i : Nat} {g : Heap} (st : EnT a e t i g) : ∀ b ∈ [e, t], ∃ o, g.get? b = some o ∧ ∀ v, o.data ≠ .cell v := by
  obtain ⟨⟨old, he⟩, ⟨o, ho, _, dat⟩, _⟩ := st
  intro b hb
  cases hb with
  | head => exact ⟨_, he, fun v z => nomatch z⟩
  | tail _ hb =>
    obtain rfl := List.mem_singleton.mp hb
    exact ⟨o, ho, fun v z => nomatch (show Data.fields _ = Data.cell v from dat.symm.trans z)⟩
theorem turn_enumT {P : Program} {w : World} {K : PySem.W.Frag} {elts : List Expr} {kk : Nat} {tpos : Pos} (a e t : Addr) :
    Turn P w K (.Tuple elts kk tpos) (IteT K a) [e, t] e (EnT a e t) where
  mem := List.mem_cons_self
  obj := fun _ _ st => st.live
  keep := fun i g g' ⟨⟨old, he⟩, ht, ne⟩ k => ⟨⟨old, k e List.mem_cons_self _ he⟩, ht.at fun o => k t (List.mem_cons_of_mem _ List.mem_cons_self) o, ne⟩
  self := fun A i s Q E st q => by
    obtain ⟨⟨old, he⟩, _⟩ := st
    exact wpAny_pyIter_enum he q
  item := by
    intro X hP hw hK calm i pins s σ H E I own st go
    subst hP hw hK
    obtain ⟨xs, x, hq, hx⟩ := go
    obtain ⟨us, rel, tup, _⟩ := I.tuple hq
    obtain ⟨u, hu, ru⟩ := rel.get hx
    have live := st.live
    obtain ⟨⟨old, he⟩, ht, ne⟩ := st
    have at_ : a ≠ t := by
      obtain ⟨o, ho, cls, _⟩ := id ht
      exact not_tuple tup ho (by rw [cls]; decide)
    have ae : e ∉ [t, a] := by
      intro z
      cases z with
      | head => exact ne rfl
      | tail _ z => exact not_tuple tup he (by show Value.type "enumerate" ≠ .type "tuple"; decide) (List.mem_singleton.mp z).symm
    have walk := GoesN.enumFrom (elts := elts) (x1 := kk) (pos := tpos) 0
      (Draws.tuple (prog := X.prog) (w := X.w) (A := X.A.in1) (I.ok.hd calm) t a at_ us.toArray) e ne ae List.mem_cons_self
    refine walk.goes i s (fun v s2 => ∃ y H', Inv X pins σ H' s2 ∧ RelV y v ∧ (IteT X.K a).yld i H y H' ∧ EnT a e t (i + 1) s2.heap ∧ ∀ b ∈ [e, t], H' b = none) E
      ?_ ⟨⟨old, by rw [Int.zero_add]; exact he⟩, ht, tup⟩ ?_
    · rw [List.size_toArray]
      exact (List.getElem?_eq_some_iff.mp hu).1
    · rintro v g tk ⟨T, tok, y, rfl, new, hy, made⟩ ⟨⟨old2, he2⟩, ht2, _⟩ off _
      obtain rfl : y = u := Option.some.inj (by rw [← hu, ← hy, List.getElem?_toArray])
      rw [Int.zero_add] at made he2
      obtain ⟨J, free, none_⟩ := told_new (tk := tk) (xs := [.int (i : Nat), x]) (us := [.int i tok, y]) I own (fun b hb => let ⟨o, q, _⟩ := live b hb; ⟨o, q⟩) off new made
        (.cons ⟨tok, rfl⟩ (.cons ru .nil)) (by show 2 ≤ sizeLine; decide)
      exact ⟨.ref T, _, J, rfl, ⟨T, x, rfl, free, rfl, fun ys hy => by rw [I.tuple_inj hy hq]; exact hx⟩, ⟨⟨old2, he2⟩, ht2, ne⟩, none_⟩
  done := by
    intro X hP hw hK calm i pins s σ H E I own st go
    subst hP hw hK
    obtain ⟨xs, hq, rfl⟩ := go
    obtain ⟨us, rel, tup, _⟩ := I.tuple hq
    obtain ⟨⟨old, he⟩, ht, ne⟩ := st
    have at_ : a ≠ t := by
      obtain ⟨o, ho, cls, _⟩ := id ht
      exact not_tuple tup ho (by rw [cls]; decide)
    have ae : e ∉ [t, a] := by
      intro z
      cases z with
      | head => exact ne rfl
      | tail _ z => exact not_tuple tup he (by show Value.type "enumerate" ≠ .type "tuple"; decide) (List.mem_singleton.mp z).symm
    have walk := GoesN.enumFrom (elts := elts) (x1 := kk) (pos := tpos) 0
      (Draws.tuple (prog := X.prog) (w := X.w) (A := X.A.in1) (I.ok.hd calm) t a at_ us.toArray) e ne ae List.mem_cons_self
    have len : us.toArray.size = xs.length := by rw [List.size_toArray, rel.length]
    refine walk.stops s (fun s' => Inv X pins σ H s') E (by rw [len]; exact ⟨⟨old, by rw [Int.zero_add]; exact he⟩, ht, tup⟩) fun g tk off _ => I.turnedL (t' := tk) off own

def iEnumT (K : PySem.W.Frag) (ta : TA) : TI := fun σ H R => ta σ H fun vs H1 => ∃ a xs, vs = [.ref a] ∧ SqT K H1 a xs ∧ R (IteT K a) H1
theorem pi_enumT {X : Cx} {e : Expr} {ta : TA} {p pos tpos : Pos} {elts : List Expr} {kk : Nat} (hg : Gl X "enumerate")
    (hm : X.mg "enumerate" = none) (ha : PA X [e] ta) (hs : starEach [e] X.env = [(false, eval e X.env)] := by rfl) :
    PI X (.Tuple elts kk tpos) (.Call (.Name "enumerate" p) [e] [] pos) (iEnumT X.K ta) := by
  refine ⟨fun pins s σ H R I want => Call_ (ld_blt I hg hm boot_enumerate (PyProof.Rows.callWith_type1 (thn (ha.run pos pins s σ H _ I want) ?_) hs rfl))⟩
  rintro us s1 ⟨vs, H1, I1, rel, a, xs, rfl, hq, go⟩
  obtain rfl := rel.ref1
  obtain ⟨its, _, tup, _⟩ := I1.tuple hq
  refine counts_call (begins_tuple a its.toArray) tup fun g he ht up => wpAny_pyIter_enum he ?_
  have new : ∀ b ∈ [s1.heap.objs.size + 1, s1.heap.objs.size], s1.heap.objs.size ≤ b := by
    intro b hb
    simp only [List.mem_cons, List.not_mem_nil, or_false] at hb
    omega
  exact ⟨_, _, _, _, H1, rfl, I1.kept (t' := s1.toks) up, turn_enumT a (s1.heap.objs.size + 1) s1.heap.objs.size,
    ⟨⟨_, he⟩, ⟨_, ht, rfl, rfl⟩, Nat.succ_ne_self _⟩, fun b hb => I1.fpOk (new b hb) (I1.hok.fresh (new b hb)), go⟩
theorem walk_enumT {K : PySem.W.Frag} {a : Addr} {xs : List V} :
    Walk (IteT K a) xs.length (fun H => SqT K H a xs) (YPair (fun i => some (.int (i : Nat))) (fun i => xs[i]?)) := by
  refine ⟨fun i H lt q => ⟨xs, xs[i], q, List.getElem?_eq_getElem lt⟩, fun H q => ⟨xs, q, rfl⟩, ?_⟩
  rintro i H v H' _ q ⟨T, x, e, free, next, is⟩
  exact ⟨T, .int (i : Nat), x, e, free, next, rfl, is xs q⟩

/-! ### sum of a tuple of whole numbers -/
theorem sumT {X : Cx} (hc : X.calm = true) : CallR X (.builtin "sum") (fun vs H Q => ∃ (a : Addr) (ns : List Int),
    vs = [V.ref a] ∧ SqT X.K H a (ns.map V.int) ∧ Q (.int ns.sum) H) := by
  rintro pins s σ H xs us Q I r ⟨a, ns, rfl, hq, q⟩
  obtain rfl := r.ref1
  obtain ⟨its, rv, p, hz⟩ := I.tuple hq
  have hi : IntsAre its ns := rv.ints
  obtain ⟨ys, hy⟩ := hi.allInts.items
  have hn : numsOf its.toArray.toList = ns := by
    rw [show its.toArray.toList = its from rfl, hi.numsOf]
  have p' : s.heap.IsTuple a its.toArray := p
  rw [hy] at p' hn
  rw [nums_intItems] at hn
  refine PySem.W.ktm_sumG (I.ok.hd hc) p' ?_
  intro h' tk t' hk
  have e : preSum (numAt ys) ys.size = ns.sum := by
    rw [preSum_eq, List.take_of_length_le (by simp), hn]
  rw [e]
  exact ⟨.int ns.sum, H, I.kept hk, ⟨t', rfl⟩, q⟩

/-! ### a text so many times -/
def repText (z : Str) (n : Nat) : Str := ⟨(List.replicate n z.cps).foldl (· ++ ·) #[]⟩
theorem repS {X : Cx} : OpR X (binaryOp .Mult) (fun x y H Q => ∃ (z : Str) (n : Int), x = .str z ∧ y = .int n ∧ 2 ≤ n ∧ n ≤ 1000 ∧
    z.length = 1 ∧ (repText z n.toNat).length ≤ sizeLine ∧ Q (.str (repText z n.toNat)) H) := by
  rintro pins s σ H x y v u Q I rx ry ⟨z, n, rfl, rfl, h1, h2, hz, hs, q⟩
  obtain ⟨t, rfl⟩ := rx
  obtain ⟨t2, rfl⟩ := ry
  have c1 : ¬ n < 1 := by omega
  have c2 : (n == 1 || z.length == 0) = false := by
    rw [hz, show (n == 1) = false from beq_eq_false_iff_ne.mpr (by omega)]
    rfl
  refine PySem.P.mul_str ?_ ?_ ?_ ?_
  · rw [decide_eq_false (show ¬ n < -(2 ^ 63 : Int) by omega), decide_eq_false (show ¬ n ≥ 2 ^ 63 by omega)]
    rfl
  · intro _ _
    rw [hz]
    have : (1 : Int) ≤ (2 ^ 63 - 1) / n := by
      refine (Int.le_ediv_iff_mul_le (by omega)).mpr ?_
      omega
    omega
  · intro _ _
    show decide (z.length * n.toNat > sizeLine) = false
    rw [hz]
    refine decide_eq_false ?_
    rw [sizeLine_eq]
    omega
  · rw [if_neg c1, if_neg (by rw [c2]; exact Bool.false_ne_true)]
    exact ⟨hs, .str _, H, I.tok _, ⟨_, rfl⟩, q⟩

/-! ### a tuple so many times, once and never, too -/
theorem mulT_same (l : Addr) (items : Array Value) (n : Nat) (dd : Option Addr) (sl : Array (Option Value)) (x : Int) (u : Tok)
    (c1 : (items.isEmpty || x == 1) = true) (c0 : (decide (x < -(2 ^ 63)) || decide (x ≥ 2 ^ 63)) = false) :
    Meets (Builtin.«tuple.__mul__» ⟨[.ref l, .int x u], []⟩) (fun _ R s => s.heap.get? l = some { cls := .type "tuple", dict := dd, data := .seq items n, slots := sl } ∧
      R (.ok (.ret (Value.ref l))) s) :=
  .of_wp fun prog w A R s h => by
    obtain ⟨hp, g, d, tk, os⟩ := s
    obtain ⟨hl, h⟩ := h
    have f1 := AutoSeq1.idx_int
    wp_walk using AutoSeq1.wpAny_loadPart' hl
    repeat (first
      | (refine wpAny_ite_false (decide_eq_false (by rw [c0]; exact Bool.false_ne_true)) ?_; wp_walk using AutoSeq1.wpAny_loadPart' hl)
      | (refine wpAny_ite_true (decide_eq_true (by rw [c1])) ?_; wp_walk using AutoSeq1.wpAny_loadPart' hl))
    exact ⟨_, rfl, h⟩
end MG

namespace MG
open PySem PySem.Spec PyProof.Rows L2

theorem mulT_none (l : Addr) (items : Array Value) (n : Nat) (dd : Option Addr) (sl : Array (Option Value)) (u : Tok)
    (c1 : items.isEmpty = false) :
    Meets (Builtin.«tuple.__mul__» ⟨[.ref l, .int 0 u], []⟩) (fun _ R s =>
      s.heap.get? l = some { cls := .type "tuple", dict := dd, data := .seq items n, slots := sl } ∧
      R (.ok (.ret (Value.ref s.heap.objs.size))) { s with heap := s.heap.push { cls := Value.type "tuple", data := Data.seq #[] }, toks := s.toks }) :=
  .of_wp fun prog w A R s h => by
    obtain ⟨hp, g, d, tk, os⟩ := s
    obtain ⟨hl, h⟩ := h
    have f1 := AutoSeq1.idx_int
    have c2 : (items.isEmpty || (0 : Int) == 1) = false := by rw [c1]; rfl
    have c3 : (decide ((0 : Int) ≤ 0) || items.isEmpty) = true := rfl
    wp_walk using AutoSeq1.wpAny_loadPart' hl
    repeat (first
      | (refine wpAny_ite_false (decide_eq_false (by rw [c2]; exact Bool.false_ne_true)) ?_; wp_walk using AutoSeq1.wpAny_loadPart' hl)
      | (refine wpAny_ite_true (decide_eq_true (by rw [c3])) ?_; wp_walk using AutoSeq1.wpAny_loadPart' hl))
    exact ⟨_, rfl, h⟩

def rRepA (K : PySem.W.Frag) : R2 := fun x y H Q => ∃ l k xs, x = .ref l ∧ y = .int k ∧ SqT K H l xs ∧ xs ≠ [] ∧ 0 ≤ k ∧ k ≤ 1000 ∧
  xs.length ≤ 1000 ∧ (k = 1 → Q (.ref l) H) ∧ (k ≠ 1 → ∀ p, H p = none → Q (.ref p) (upd H p (.tup (List.replicate k.toNat xs).flatten)))
theorem op_repA {X : Cx} : OpR X (binaryOp .Mult) (rRepA X.K) := by
  rintro pins s σ H x y v u Q I rx ry ⟨l, k, xs, rfl, rfl, hT, hne, h1, h2, hz, q1, q2⟩
  by_cases hk : 2 ≤ k
  · exact op_repT pins s σ H _ _ v u Q I rx ry ⟨l, k, xs, rfl, rfl, hT, hne, hk, h2, hz, q2 (by omega)⟩
  · cases rx
    obtain ⟨t, rfl⟩ := ry
    obtain ⟨its, r, ⟨⟨cls, dd, data, sl⟩, ho, hc, n, hd⟩, hs⟩ := I.tuple hT
    simp only at hc hd
    subst hc hd
    have hi : its.toArray.isEmpty = false := by
      cases its with
      | nil =>
        have := r.length
        exact absurd (List.eq_nil_of_length_eq_zero this) hne
      | cons a b => rfl
    have ty : ∀ s' : Shared, s'.TypeIs (.int k t) "int" := fun s' => typeIs_int s' k t
    by_cases hk1 : k = 1
    · refine wpAny_binaryOp_repeat_ref (T := "tuple") (U := "int") (by decide) ⟨_, ho, rfl⟩ ty noFill_tuple_mul F.fills_int_mul
        F.slot_int_rmul repeat_tuple F.slot_int_index.lookup ?_
      refine call_meets F.slot_int_rmul (typeIs_int s k t) F.entry_int_rmul (F.args_int_rmul_2 _ _)
        (int_rmul_tuple k t l its.toArray n dd sl) ⟨ho, rfl, ⟨_, ho, rfl⟩, ?_⟩
      refine call_meets F.slot_tuple_mul ⟨_, ho, rfl⟩ F.entry_tuple_mul (F.args_tuple_mul_2 _ _)
        (mulT_same l its.toArray n dd sl k t (by rw [hk1, hi]; rfl) ?_) ⟨ho, ?_⟩
      · rw [decide_eq_false (show ¬ k < -(2 ^ 63 : Int) by omega), decide_eq_false (show ¬ k ≥ 2 ^ 63 by omega)]
        rfl
      · exact ⟨.ref l, H, I, rfl, q1 hk1⟩
    · have hk0 : k = 0 := by omega
      subst hk0
      refine wpAny_binaryOp_repeat_ref (T := "tuple") (U := "int") (by decide) ⟨_, ho, rfl⟩ ty noFill_tuple_mul F.fills_int_mul
        F.slot_int_rmul repeat_tuple F.slot_int_index.lookup ?_
      refine call_meets F.slot_int_rmul (typeIs_int s 0 t) F.entry_int_rmul (F.args_int_rmul_2 _ _)
        (int_rmul_tuple 0 t l its.toArray n dd sl) ⟨ho, rfl, ⟨_, ho, rfl⟩, ?_⟩
      refine call_meets F.slot_tuple_mul ⟨_, ho, rfl⟩ F.entry_tuple_mul (F.args_tuple_mul_2 _ _)
        (mulT_none l its.toArray n dd sl t hi) ⟨ho, ?_⟩
      refine ⟨.ref s.heap.objs.size, _, I.laid (t' := s.toks) (o := .tup []) (fun b ob q => Heap.get?_push_of_some _ q)
        (Nat.le_refl _) ?_, rfl, q2 hk1 _ (I.hok.fresh (Nat.le_refl _))⟩
      exact ⟨Nat.zero_le _, [], .nil, IsTup.new _ _⟩

/-! ### data: None, truths, whole numbers, texts, lists, tuples, dicts with text keys -/
def kD : Key → PyData
  | .inl i => .int i
  | .inr x => .str x
mutual
inductive Dd (H : Hp) : V → PyData → Prop
  | non : Dd H .non .none
  | bl (b : Bool) : Dd H (.bl b) (.bool b)
  | int (i : Int) : Dd H (.int i) (.int i)
  | str (x : Str) : Dd H (.str x) (.str x)
  | lst {a : Addr} {xs : List V} {ds : List PyData} : H a = some (.lst xs) → DdAll H xs ds → Dd H (.ref a) (.list ds)
  | tup {a : Addr} {xs : List V} {ds : List PyData} : H a = some (.tup xs) → DdAll H xs ds → Dd H (.ref a) (.tuple ds)
  | dic {a : Addr} {kvs : List (Key × V)} {ds : List PyData} : H a = some (.dK kvs) → DdAll H (kvs.map (·.2)) ds →
      Dd H (.ref a) (.dict ((kvs.map fun p => kD p.1).zip ds))
inductive DdAll (H : Hp) : List V → List PyData → Prop
  | nil : DdAll H [] []
  | cons {v : V} {vs : List V} {d : PyData} {ds : List PyData} : Dd H v d → DdAll H vs ds → DdAll H (v :: vs) (d :: ds)
end
theorem DdAll.length {H : Hp} : ∀ {vs : List V} {ds : List PyData}, DdAll H vs ds → ds.length = vs.length
  | [], _, h => by cases h; rfl
  | v :: vs, _, h => by
    cases h with
    | cons _ t => rw [List.length_cons, List.length_cons, t.length]

mutual
theorem Dd.same {H H' : Hp} (s : Same H H') : ∀ {v : V} {d : PyData}, Dd H v d → Dd H' v d
  | _, _, .non => .non
  | _, _, .bl b => .bl b
  | _, _, .int i => .int i
  | _, _, .str x => .str x
  | _, _, .lst e r => .lst (s _ _ e) (DdAll.same s r)
  | _, _, .tup e r => .tup (s _ _ e) (DdAll.same s r)
  | _, _, .dic e r => .dic (s _ _ e) (DdAll.same s r)
theorem DdAll.same {H H' : Hp} (s : Same H H') : ∀ {vs : List V} {ds : List PyData}, DdAll H vs ds → DdAll H' vs ds
  | _, _, .nil => .nil
  | _, _, .cons a b => .cons (Dd.same s a) (DdAll.same s b)
end

section
variable {X : Cx} {pins : List (Addr × Obj)} {σ : L2.St} {H : Hp} {s : Shared}
theorem key_read {P : Program} {w : World} {h : Heap} {k : Key} {v : Value} (e : (mixKind P w).is k v = true) : Reads h v (kD k) [] := by
  rcases keyIs_shape (show keyIs k v = true from e) with ⟨i, t, rfl, rfl⟩ | ⟨x, t, rfl, rfl⟩
  · exact .int i t
  · exact .str x t
theorem pairs_read {P : Program} {w : World} {h : Heap} : ∀ {es : List DictEntry} {vs : List (Key × Value)} {kvs : List (Key × V)},
    Pairs (mixKind P w) es vs → KV kvs vs →
    ReadsAll h (es.map (·.key)) (kvs.map fun p => kD p.1) [] ∧ es.map (·.val) = vs.map (·.2) ∧ Vals (kvs.map (·.2)) (vs.map (·.2))
  | _, _, _, .nil, .nil => ⟨.nil, rfl, .nil⟩
  | _, _, _, .cons h1 h2 t, .cons r rt => by
    obtain ⟨a, b, c⟩ := pairs_read (h := h) t rt
    refine ⟨?_, ?_, .cons r.2 c⟩
    · rw [← r.1] at h1
      exact ReadsAll.cons (key_read h1) a
    · rw [List.map_cons, List.map_cons, b, h2]
theorem zip_fst {α β : Type} {xs : List α} {ys : List β} (h : xs.length = ys.length) : (xs.zip ys).map (·.1) = xs := by
  rw [show (fun x : α × β => x.1) = Prod.fst from rfl]
  exact List.map_fst_zip (Nat.le_of_eq h)
theorem zip_snd {α β : Type} {xs : List α} {ys : List β} (h : xs.length = ys.length) : (xs.zip ys).map (·.2) = ys := by
  rw [show (fun x : α × β => x.2) = Prod.snd from rfl]
  exact List.map_snd_zip (Nat.le_of_eq h.symm)
theorem not_sys {a : Addr} {o : Obj} {vs : Array Value} {n : Nat} (sys : SysD X.base) (I : L2.Inv X pins σ H s) (h : s.heap.get? a = some o) (hc : o.data = .seq vs n) : sysModules ≠ a := by
  rintro rfl
  obtain ⟨mm, u, es, ep, hu, du, _⟩ := sys
  have := I.bk _ _ hu
  rw [h] at this
  cases this
  rw [hc] at du
  cases du
mutual
theorem Dd.reads (sys : SysD X.base) (I : Inv X pins σ H s) : ∀ {v : V} {d : PyData}, Dd H v d → ∀ {u : Value}, RelV v u → ∃ as, Reads s.heap u d as ∧ sysModules ∉ as
  | _, _, .non, _, r => by cases r; exact ⟨_, .none, List.not_mem_nil⟩
  | _, _, .bl b, _, r => by cases r; exact ⟨_, .bool b, List.not_mem_nil⟩
  | _, _, .int i, _, r => by obtain ⟨t, rfl⟩ := r; exact ⟨_, .int i t, List.not_mem_nil⟩
  | _, _, .str x, _, r => by obtain ⟨t, rfl⟩ := r; exact ⟨_, .str x t, List.not_mem_nil⟩
  | _, _, .lst e h, _, r => by
    cases r
    obtain ⟨_, its, n, rv, ho⟩ := I.hok _ _ e
    obtain ⟨as, q, ns⟩ := DdAll.reads sys I h rv
    refine ⟨_, Reads.list ho rfl rfl q, ?_⟩
    intro z
    rcases List.mem_cons.mp z with z | z
    · exact not_sys sys I ho rfl z
    · exact ns z
  | _, _, .tup e h, _, r => by
    cases r
    obtain ⟨_, its, rv, o, ho, hc, n, hd⟩ := I.hok _ _ e
    obtain ⟨as, q, ns⟩ := DdAll.reads sys I h rv
    exact ⟨_, Reads.tuple ho hc hd q, ns⟩
  | _, _, .dic (kvs := kvs) (ds := ds) e h, _, r => by
    cases r
    obtain ⟨_, hne, vs, kv, o, es, ep, ho, hx, hd, _, hp, _⟩ := I.hok _ _ e
    obtain ⟨rk, hv, rvs⟩ := pairs_read (h := s.heap) hp kv
    obtain ⟨bs, q, ns⟩ := DdAll.reads sys I h rvs
    have hl : (kvs.map fun p => kD p.1).length = ds.length := by
      rw [h.length, List.length_map, List.length_map]
    refine ⟨_, Reads.dict (as := []) (bs := bs) ho hx.1 hd ?_ ?_, ?_⟩
    · rw [zip_fst hl]; exact rk
    · rw [zip_snd hl, hv]; exact q
    · intro z
      rcases List.mem_cons.mp (show sysModules ∈ _ :: bs from z) with z | z
      · rw [z] at hne
        simp at hne
      · exact ns z
theorem DdAll.reads (sys : SysD X.base) (I : Inv X pins σ H s) : ∀ {vs : List V} {ds : List PyData}, DdAll H vs ds → ∀ {us : List Value}, Vals vs us → ∃ as, ReadsAll s.heap us ds as ∧ sysModules ∉ as
  | _, _, .nil, _, r => by cases r; exact ⟨_, .nil, List.not_mem_nil⟩
  | _, _, .cons a b, _, r => by
    cases r with
    | cons r1 r2 =>
      obtain ⟨as, q1, n1⟩ := Dd.reads sys I a r1
      obtain ⟨bs, q2, n2⟩ := DdAll.reads sys I b r2
      refine ⟨_, .cons q1 q2, ?_⟩
      intro z
      rcases List.mem_append.mp z with z | z
      · exact n1 z
      · exact n2 z
end
/-- repr(x) -/
theorem call_repr (gd : X.A.guards = some []) (hu : X.A.units + 100 < cLine) (sys : SysD X.base) :
    CallR X (.builtin "repr") (fun xs H Q => ∃ x d, xs = [x] ∧ Dd H x d ∧ d.showable = true ∧ d.depth ≤ 60 ∧ d.shown.length ≤ sizeLine ∧ Q (.str d.shown) H) := by
  rintro pins s σ H xs us Q I r ⟨x, d, rfl, hd, hs, hdep, hz, q⟩
  obtain ⟨u, rfl, r1⟩ := vals1 r
  have fin : ∀ h' v tk, (∀ b o, s.heap.get? b = some o → h'.get? b = some o) →
      EP X pins σ Q (.str d.shown v) { s with heap := h', toks := tk } := fun h' v tk hk => ⟨.str d.shown, H, I.kept hk, ⟨v, rfl⟩, q⟩
  obtain ⟨as, rd, ns⟩ := Dd.reads sys I hd r1
  cases rd with
  | none => exact PySem.P.repr_of_none (fin s.heap s.toks (s.toks + 1) fun _ _ e => e)
  | bool b => exact PySem.P.repr_of_bool (fin s.heap s.toks (s.toks + 1) fun _ _ e => e)
  | int i t => exact PySem.P.repr_of_int (of_decide_eq_true hs) (fin s.heap s.toks (s.toks + 1) fun _ _ e => e)
  | str z t => exact PySem.P.repr_of_str (fin s.heap s.toks (s.toks + 1) fun _ _ e => e) hz
  | list h1 h2 h3 h4 => exact repr_of_reads' (.list h1 h2 h3 h4) hs (fun _ => ns) gd (by omega) (fun _ _ e => e) fin hz
  | tuple h1 h2 h3 h4 => exact repr_of_reads' (.tuple h1 h2 h3 h4) hs (fun _ => ns) gd (by omega) (fun _ _ e => e) fin hz
  | dict h1 h2 h3 h4 h5 => exact repr_of_reads' (.dict h1 h2 h3 h4 h5) hs (fun _ => ns) gd (by omega) (fun _ _ e => e) fin hz
end
end MG

namespace MG
open PySem PySem.Spec PyProof.Rows L2

/-- v is data in H: at most n deep, its repr at most c signs -/
def Da (H : Hp) (n c : Nat) (v : V) : Prop := ∃ d, Dd H v d ∧ d.showable = true ∧ d.depth ≤ n ∧ d.shown.length ≤ c
theorem Da.same {H H' : Hp} {n c : Nat} {v : V} (s : Same H H') (h : Da H n c v) : Da H' n c v := by
  obtain ⟨d, a, b⟩ := h
  exact ⟨d, a.same s, b⟩
theorem Da.le {H : Hp} {n c n' c' : Nat} {v : V} (h : Da H n c v) (hn : n ≤ n') (hc : c ≤ c') : Da H n' c' v := by
  obtain ⟨d, a, b, e, f⟩ := h
  exact ⟨d, a, b, Nat.le_trans e hn, Nat.le_trans f hc⟩
theorem Da.non {H : Hp} : Da H 0 4 .non := ⟨.none, .non, rfl, Nat.le_refl _, by decide +kernel⟩
theorem Da.bl {H : Hp} (b : Bool) : Da H 0 5 (.bl b) := ⟨.bool b, .bl b, rfl, Nat.le_refl _, by cases b <;> decide +kernel⟩
theorem int_len {i : Int} {k : Nat} (hk : 0 < k) (h : i.natAbs < 2 ^ k) : (Str.ofString (toString i)).length ≤ k + 1 := by
  rw [PySem.ofString_length]
  refine int_text_length_le hk ?_
  by_cases h0 : i.natAbs = 0
  · rw [h0]; exact Nat.lt_of_le_of_lt (by decide) hk
  · exact (Nat.log2_lt h0).mpr h
theorem Da.int {H : Hp} {i : Int} (h : i.natAbs < 2 ^ 300) : Da H 0 301 (.int i) := by
  refine ⟨.int i, .int i, ?_, Nat.le_refl _, int_len (by decide) h⟩
  show decide (i.natAbs.log2 < 1920) = true
  refine decide_eq_true ?_
  by_cases h0 : i.natAbs = 0
  · rw [h0]; decide
  · exact Nat.lt_of_lt_of_le ((Nat.log2_lt h0).mpr h) (by decide)
theorem Da.str {H : Hp} (x : Str) {c : Nat} (h : (reprText x).length ≤ c) : Da H 0 c (.str x) := ⟨.str x, .str x, rfl, Nat.le_refl _, h⟩

theorem das {H : Hp} {n c : Nat} : ∀ {xs : List V}, (∀ x ∈ xs, Da H n c x) →
    ∃ ds, DdAll H xs ds ∧ PyData.showableAll ds = true ∧ PyData.depthAll ds ≤ n ∧ piled (PyData.shownAll ds) ≤ xs.length * (c + 2)
  | [], _ => ⟨[], .nil, rfl, Nat.zero_le _, by rw [PyData.shownAll, piled_nil]; exact Nat.zero_le _⟩
  | x :: xs, h => by
    obtain ⟨d, a, b, e, f⟩ := h x List.mem_cons_self
    obtain ⟨ds, a2, b2, e2, f2⟩ := das (xs := xs) fun y hy => h y (List.mem_cons_of_mem _ hy)
    refine ⟨d :: ds, .cons a a2, ?_, ?_, ?_⟩
    · rw [PyData.showableAll, b, b2]; rfl
    · rw [PyData.depthAll]; exact Nat.max_le.mpr ⟨e, e2⟩
    · rw [PyData.shownAll, piled_cons, List.length_cons, Nat.add_mul, Nat.one_mul]
      omega
theorem tupleText_le (ts : List Str) : (tupleText ts).length ≤ piled ts + 3 := by
  unfold tupleText
  rw [strLen_append, strLen_append]
  have h1 : ("(" : Str).length = 1 := rfl
  have h2 : (Str.ofString (if (ts.length == 1) = true then ",)" else ")")).length ≤ 2 := by
    cases ts.length == 1 <;> decide +kernel
  have h3 : (Str.join ", " ts).length ≤ piled ts := by
    cases ts with
    | nil => decide +kernel
    | cons t r =>
      have := join_length_add (t :: r) (List.cons_ne_nil _ _)
      omega
  have h4 : ((if (ts.length == 1) = true then ",)" else ")" : String) : Str).length ≤ 2 := h2
  omega
theorem dictText_le (ts : List Str) : (dictText ts).length ≤ piled ts + 3 := by
  unfold dictText
  rw [strLen_append, strLen_append]
  have h1 : ("{" : Str).length = 1 := rfl
  have h2 : ("}" : Str).length = 1 := rfl
  have h3 : (Str.join ", " ts).length ≤ piled ts := by
    cases ts with
    | nil => decide +kernel
    | cons t r =>
      have := join_length_add (t :: r) (List.cons_ne_nil _ _)
      omega
  omega
theorem listText_le (ts : List Str) : (listText ts).length ≤ piled ts + 3 := by
  unfold listText
  rw [strLen_append]
  have h2 : ("]" : Str).length = 1 := rfl
  cases ts with
  | nil => decide +kernel
  | cons t r =>
    have e : (textFrom 0 "[" (t :: r)) = textFrom 1 (("[" : Str) ++ (if (0 : Nat) > 0 then ", " else "" : String) ++ t) r := rfl
    rw [e, textFrom_length_pos _ _ _ Nat.one_pos, strLen_append, strLen_append, piled_cons]
    have h1 : ("[" : Str).length = 1 := rfl
    have h3 : ((if (0 : Nat) > 0 then ", " else "" : String) : Str).length = 0 := by decide +kernel
    omega
theorem Da.tup {H : Hp} {n c m : Nat} {a : Addr} {xs : List V} (e : H a = some (.tup xs)) (h : ∀ x ∈ xs, Da H n c x) (hm : xs.length ≤ m) :
    Da H (n + 1) (m * (c + 2) + 3) (.ref a) := by
  obtain ⟨ds, a1, b1, e1, f1⟩ := das h
  refine ⟨.tuple ds, .tup e a1, b1, Nat.succ_le_succ e1, ?_⟩
  have h1 := tupleText_le (PyData.shownAll ds)
  have h2 : xs.length * (c + 2) ≤ m * (c + 2) := Nat.mul_le_mul_right _ hm
  show (tupleText (PyData.shownAll ds)).length ≤ _
  omega
theorem Da.lst {H : Hp} {n c m : Nat} {a : Addr} {xs : List V} (e : H a = some (.lst xs)) (h : ∀ x ∈ xs, Da H n c x) (hm : xs.length ≤ m) :
    Da H (n + 1) (m * (c + 2) + 3) (.ref a) := by
  obtain ⟨ds, a1, b1, e1, f1⟩ := das h
  refine ⟨.list ds, .lst e a1, b1, Nat.succ_le_succ e1, ?_⟩
  have h1 := listText_le (PyData.shownAll ds)
  have h2 : xs.length * (c + 2) ≤ m * (c + 2) := Nat.mul_le_mul_right _ hm
  show (listText (PyData.shownAll ds)).length ≤ _
  omega
theorem Da.dic0 {H : Hp} {a : Addr} (e : H a = some (.dK [])) : Da H 1 3 (.ref a) :=
  ⟨.dict [], .dic e .nil, rfl, by decide, by decide +kernel⟩
theorem Da.dic1 {H : Hp} {n c : Nat} {a : Addr} {k : Str} {v : V} (e : H a = some (.dK [(.inr k, v)])) (h : Da H n c v) (hk : (reprText k).length ≤ 5) :
    Da H (n + 1) (c + 12) (.ref a) := by
  obtain ⟨d, a1, b1, e1, f1⟩ := h
  refine ⟨.dict [(.str k, d)], .dic e (.cons a1 .nil), ?_, ?_, ?_⟩
  · show (true && d.showable && true) = true
    rw [b1]; rfl
  · show max (max 0 d.depth) 0 + 1 ≤ n + 1
    omega
  · have h1 := dictText_le (PyData.shownKv [(.str k, d)])
    have h2 : PyData.shownKv [(.str k, d)] = [reprText k ++ ": " ++ d.shown] := rfl
    rw [h2] at h1
    show (dictText (PyData.shownKv [(.str k, d)])).length ≤ _
    rw [h2]
    have h3 : (reprText k ++ ": " ++ d.shown).length = (reprText k).length + 2 + d.shown.length := by
      rw [strLen_append, strLen_append]; rfl
    rw [piled_cons, piled_nil, h3] at h1
    omega
end MG

namespace MG
open PySem PySem.Spec PyProof.Rows L2

/-! ### f(a=.., b=..): every parameter by its name, in the def's order -/
def KB (K : PySem.W.Frag) (fd : FuncData) (ps : List Str) : Prop :=
  ∀ (s : Shared) (us : List Value), K.In s.heap → us.length = ps.length → BindsTo s fd ⟨[], ps.zip us⟩ (ps.zip us)
theorem kb_of {K : PySem.W.Frag} {x qual : Str} {st : Stmt} {f : Addr} {fd : FuncData} {ps : List Str} (F : Fun K x qual st f fd)
    (h : ∀ (kV doc pm : Value) (an : Option Addr) (cdv ct : Value) (us : List Value), us.length = ps.length →
      bindArgs (PySem.W.fnOf x qual (defArgs st) (defBody st) (defScope st) .none kV doc pm an cdv ct) ⟨[], ps.zip us⟩ = pure (ps.zip us)) : KB K fd ps := by
  obtain ⟨oc, od, kV, doc, pm, an, cdv, ct, osl, rfl, lk, hcd⟩ := F.ex
  exact fun s us _ hl => .of_eq (h kV doc pm an cdv ct us hl)
def tCallN (sp : Sp) (E : XK) (tk : TA) : TE := fun σ H Q => tk σ H fun zs H2 => sp zs H2 Q E
theorem pe_callN {X : Cx} {k : Nat} {f : Addr} {fd : FuncData} {ps : List Str} {sp : Sp} {E : XK} {x : Str} {p pos : Pos} {kws : List Keyword} {tk : TA}
    (F : FnOk X.prog X.w X.K X.mg X.base CX0 k f fd ps sp) (hr : Room k X.A) (hg : Gl X x)
    (hm : X.mg x = some (.ref f)) (hk : PySem.W.keepIn X.K (.ref f) = true) (hb : KB X.K fd ps) (hkw : PK X kws tk)
    (hall : (backToKw pos (keywordEach kws X.env)).all (·.1.isSome) = true := by rfl)
    (hks : (backToKw pos (keywordEach kws X.env)).filterMap (·.1) = ps := by rfl)
    (hdb : (x == ("__debug__" : Str)) = false := by decide)
    (hpl : ((backTo pos (starEach [] X.env)).any (·.1) || (backToKw pos (keywordEach kws X.env)).any (·.1.isNone)) = false := by rfl) :
    PE X (.Call (.Name x p) [] kws pos) (tCallN sp E tk) := by
  constructor
  intro pins s σ H Q I h
  refine wpAny_Call_Name_kw (ld_glob I hg hm ?_ hdb)
  refine PySem.W.callWith_KW0 (h₀ := X.base) I.ok.mod.kin hk hall (thn (hkw.run pos pins s σ H _ I h) ?_) hpl
  rintro us s1 ⟨vs, H1, I1, r, q⟩
  refine ⟨I1.kIn, ?_⟩
  rw [hks]
  have hl : us.length = ps.length := by
    rw [← r.length]
    exact F.len _ _ _ _ q
  refine wpAny_call (codeAny_mono (F.run X.A X.stack s1 H1 ⟨[], ps.zip us⟩ us vs Q E hr I1.env0 (hb s1 us I1.kIn hl) r q) ?_)
  intro res s' hq
  cases res with
  | error e => exact False.elim hq
  | ok fl =>
    cases fl with
    | ret u => exact I1.after hq
    | next => exact False.elim hq
    | brk => exact False.elim hq
    | cont => exact False.elim hq

/-! ### isinstance of data -/
def tyN : PyData → String
  | .none => "NoneType"
  | .bool _ => "bool"
  | .int _ => "int"
  | .str _ => "str"
  | .list _ => "list"
  | .tuple _ => "tuple"
  | .dict _ => "dict"
theorem Dd.ty {K : PySem.W.Frag} {H : Hp} {v : V} {d : PyData} (h : Dd H v d) : TyX K H v (.type (tyN d)) := by
  cases h with
  | non => exact .base .non
  | bl b => exact .base (.bl b)
  | int i => exact .base (.int i)
  | str x => exact .base (.str x)
  | lst e _ => exact .base (.lst e)
  | tup e _ => exact .base (.tup e)
  | dic e _ => exact .base (.dK e)
def isIntD : PyData → Bool
  | .int _ | .bool _ => true
  | _ => false
def isBoolD : PyData → Bool
  | .bool _ => true
  | _ => false
def isTupD : PyData → Bool
  | .tuple _ => true
  | _ => false
theorem kit_int (K : PySem.W.Frag) (d : PyData) : PySem.W.kitOne K (.type (tyN d)) (.type "int") = some (isIntD d) := by
  cases d with
  | none => exact kit_ty (a := "NoneType") (b := "int") (r := false) (by decide +kernel)
  | bool _ => exact kit_ty (a := "bool") (b := "int") (r := true) (by decide +kernel)
  | int _ => exact kit_ty (a := "int") (b := "int") (r := true) (by decide +kernel)
  | str _ => exact kit_ty (a := "str") (b := "int") (r := false) (by decide +kernel)
  | list _ => exact kit_ty (a := "list") (b := "int") (r := false) (by decide +kernel)
  | tuple _ => exact kit_ty (a := "tuple") (b := "int") (r := false) (by decide +kernel)
  | dict _ => exact kit_ty (a := "dict") (b := "int") (r := false) (by decide +kernel)
theorem kit_bool (K : PySem.W.Frag) (d : PyData) : PySem.W.kitOne K (.type (tyN d)) (.type "bool") = some (isBoolD d) := by
  cases d with
  | none => exact kit_ty (a := "NoneType") (b := "bool") (r := false) (by decide +kernel)
  | bool _ => exact kit_ty (a := "bool") (b := "bool") (r := true) (by decide +kernel)
  | int _ => exact kit_ty (a := "int") (b := "bool") (r := false) (by decide +kernel)
  | str _ => exact kit_ty (a := "str") (b := "bool") (r := false) (by decide +kernel)
  | list _ => exact kit_ty (a := "list") (b := "bool") (r := false) (by decide +kernel)
  | tuple _ => exact kit_ty (a := "tuple") (b := "bool") (r := false) (by decide +kernel)
  | dict _ => exact kit_ty (a := "dict") (b := "bool") (r := false) (by decide +kernel)
theorem kit_tuple (K : PySem.W.Frag) (d : PyData) : PySem.W.kitOne K (.type (tyN d)) (.type "tuple") = some (isTupD d) := by
  cases d with
  | none => exact kit_ty (a := "NoneType") (b := "tuple") (r := false) (by decide +kernel)
  | bool _ => exact kit_ty (a := "bool") (b := "tuple") (r := false) (by decide +kernel)
  | int _ => exact kit_ty (a := "int") (b := "tuple") (r := false) (by decide +kernel)
  | str _ => exact kit_ty (a := "str") (b := "tuple") (r := false) (by decide +kernel)
  | list _ => exact kit_ty (a := "list") (b := "tuple") (r := false) (by decide +kernel)
  | tuple _ => exact kit_ty (a := "tuple") (b := "tuple") (r := true) (by decide +kernel)
  | dict _ => exact kit_ty (a := "dict") (b := "tuple") (r := false) (by decide +kernel)
end MG

/-! MG: clauses, zip of tuples in comprehensions, == of rows and of texts -/
namespace MG
open PySem PySem.Spec PyProof.Rows L2
theorem walk_zipT {K : PySem.W.Frag} {a b : Addr} {xs ys : List V} {n : Nat} (hn : n = min xs.length ys.length) :
    Walk (RZ.ItzT K a b) n (fun H => SqT K H a xs ∧ SqT K H b ys) (YPair (fun i => xs[i]?) (fun i => ys[i]?)) := by
  subst hn
  refine ⟨fun i _ hi q => ?_, fun _ q => ⟨xs, ys, q.1, q.2, by omega⟩, fun i H v H' _ q y => ?_⟩
  · have h1 : i < xs.length := by omega
    have h2 : i < ys.length := by omega
    exact ⟨xs, ys, xs[i], ys[i], q.1, q.2, by simp [h1], by simp [h2]⟩
  · obtain ⟨T, x, z, h1, h2, h3, h4, h5⟩ := y
    exact ⟨T, x, z, h1, h2, h3, h4 xs q.1, h5 ys q.2⟩
theorem eqvAll_ints : ∀ a b : List Int, PyData.eqvAll (a.map PyData.int) (b.map PyData.int) = decide (a = b)
  | [], [] => rfl
  | [], _ :: _ => rfl
  | _ :: _, [] => rfl
  | x :: a, y :: b => by
    rw [List.map_cons, List.map_cons, PyData.eqvAll, eqvAll_ints a b]
    show ((x == y) && _) = _
    by_cases h : x = y
    · subst h
      rw [show (x == x) = true from beq_self_eq_true x, Bool.true_and]
      by_cases h2 : a = b
      · rw [h2]; simp
      · rw [decide_eq_false h2, decide_eq_false (fun z => h2 (List.cons.inj z).2)]
    · rw [show (x == y) = false from beq_eq_false_iff_ne.mpr h, decide_eq_false (fun z => h (List.cons.inj z).1)]; rfl
theorem eqv_rows (a b : List Int) : PyData.eqv (.tuple (a.map PyData.int)) (.tuple (b.map PyData.int)) = decide (a = b) := by
  rw [PyData.eqv, eqvAll_ints]
theorem eqvAll_strs : ∀ a b : List Str, PyData.eqvAll (a.map PyData.str) (b.map PyData.str) = decide (a = b)
  | [], [] => rfl
  | [], _ :: _ => rfl
  | _ :: _, [] => rfl
  | x :: a, y :: b => by
    rw [List.map_cons, List.map_cons, PyData.eqvAll, eqvAll_strs a b]
    show ((x == y) && _) = _
    by_cases h : x = y
    · subst h
      rw [show (x == x) = true from beq_self_eq_true x, Bool.true_and]
      by_cases h2 : a = b
      · rw [h2]; simp
      · rw [decide_eq_false h2, decide_eq_false (fun z => h2 (List.cons.inj z).2)]
    · rw [show (x == y) = false from beq_eq_false_iff_ne.mpr h, decide_eq_false (fun z => h (List.cons.inj z).1)]; rfl
theorem eqv_strs (a b : List Str) : PyData.eqv (.tuple (a.map PyData.str)) (.tuple (b.map PyData.str)) = decide (a = b) := by
  rw [PyData.eqv, eqvAll_strs]
theorem dpIntsG {K : PySem.W.Frag} {H : Hp} : ∀ L : List Int, DpAll K H (L.map V.int) (L.map PyData.int)
  | [] => .nil
  | i :: L => .cons (.int i) (dpIntsG L)
theorem dpStrsG {K : PySem.W.Frag} {H : Hp} : ∀ L : List Str, DpAll K H (L.map V.str) (L.map PyData.str)
  | [] => .nil
  | i :: L => .cons (.str i) (dpStrsG L)
theorem lay_intsG : ∀ L : List Int, PyData.canLayAll0 (L.map PyData.int) = true
  | [] => rfl
  | i :: L => by rw [List.map_cons, PyData.canLayAll0, lay_intsG L]; rfl
theorem lay_strsG : ∀ L : List Str, (∀ x ∈ L, PyData.canLay0 (.str x) = true) → PyData.canLayAll0 (L.map PyData.str) = true
  | [], _ => rfl
  | i :: L, h => by rw [List.map_cons, PyData.canLayAll0, lay_strsG L fun x hx => h x (List.mem_cons_of_mem _ hx), h i List.mem_cons_self]; rfl
theorem depth_intsG : ∀ L : List Int, PyData.depthAll (L.map PyData.int) = 0
  | [] => rfl
  | i :: L => by rw [List.map_cons, PyData.depthAll, depth_intsG L]; rfl
theorem depth_strsG : ∀ L : List Str, PyData.depthAll (L.map PyData.str) = 0
  | [] => rfl
  | i :: L => by rw [List.map_cons, PyData.depthAll, depth_strsG L]; rfl
theorem shapedT_ints (L : List Int) : SeqAt.shaped (.tuple (L.map PyData.int)) = true := by
  unfold SeqAt.shaped
  rw [PyData.canLay0, lay_intsG, PyData.depth, depth_intsG]
  rfl
theorem shapedT_strs (L : List Str) (h : ∀ x ∈ L, PyData.canLay0 (.str x) = true) : SeqAt.shaped (.tuple (L.map PyData.str)) = true := by
  unfold SeqAt.shaped
  rw [PyData.canLay0, lay_strsG L h, PyData.depth, depth_strsG]
  rfl
/-! ### those who have something -/
def hold (ns : List Int) (i : Nat) : List Int := ((List.range i).filter fun j => decide (0 < ns.getD j 0)).map fun (j : Nat) => (j : Int)
theorem hold_succ (ns : List Int) (i : Nat) : hold ns (i + 1) = hold ns i ++ (if 0 < ns.getD i 0 then [(i : Int)] else []) := by
  unfold hold
  rw [List.range_succ, List.filter_append, List.map_append]
  congr 1
  by_cases h : 0 < ns.getD i 0
  · rw [if_pos h, List.filter_cons_of_pos (by simpa using h)]; rfl
  · rw [if_neg h, List.filter_cons_of_neg (by simpa using h)]; rfl
theorem hold_len (ns : List Int) (i : Nat) : (hold ns i).length ≤ i := by
  unfold hold
  rw [List.length_map]
  exact Nat.le_trans (List.length_filter_le _ _) (by rw [List.length_range]; exact Nat.le_refl _)
theorem hold_count (ns : List Int) : ∀ i, i ≤ ns.length → (hold ns i).length = ((ns.take i).filter fun n => decide (0 < n)).length
  | 0, _ => by rw [List.take_zero]; rfl
  | i + 1, h => by
    have hi : i < ns.length := h
    rw [hold_succ, List.length_append, hold_count ns i (by omega), List.take_add_one, List.getElem?_eq_getElem hi, List.filter_append, List.length_append]
    congr 1
    have e : ns.getD i 0 = ns[i] := by rw [List.getD_eq_getElem?_getD, List.getElem?_eq_getElem hi]; rfl
    rw [e]
    show _ = (List.filter _ [ns[i]]).length
    by_cases z : 0 < ns[i]
    · rw [if_pos z, List.filter_cons_of_pos (by simpa using z)]; rfl
    · rw [if_neg z, List.filter_cons_of_neg (by simpa using z)]; rfl
theorem hold_all (ns : List Int) : (hold ns ns.length).length = (ns.filter fun n => decide (0 < n)).length := by
  rw [hold_count ns _ (Nat.le_refl _), List.take_length]
/-! ### the clauses -/
def hfn (r o : List Int) : Bool := (r.zip o).any fun p => decide (p.1 = 0) && decide (p.2 > 0)
def ms (r : List Int) : Int := (gl r : Nat) / 2 ^ v2 (gl r)
def od (r : List Int) : Nat := (fewT (v2 (gl r)) r).length
def asked (r o : List Int) : List (Str × Bool) :=
  [("sum", decide (o.sum ≠ r.sum)), ("nothing", hfn r o), ("measure", decide (ms o ≠ ms r)), ("twos", decide (v2 (gl o) < v2 (gl r))),
   ("odd ones", decide (v2 (gl o) = v2 (gl r)) && decide (od r < od o)), ("doubled", decide (v2 (gl o) = v2 (gl r)) && decide (od o = (hold o o.length).length))]
def clausesOf (r o : List Int) : List Str := ((asked r o).filter fun p => p.2).map fun p => p.1
def brkT (r o : List Int) : List Str := if r = o then [] else if r.length ≠ o.length then ["places"] else clausesOf r o
def PairsAt (H : Hp) (ts : List Addr) (cs : List (Str × Bool)) : Prop := ts.length = cs.length ∧ ∀ (i : Nat) (t : Addr) (c : Str × Bool), ts[i]? = some t → cs[i]? = some c → H t = some (.tup [.str c.1, .bl c.2])
theorem PairsAt.same {H H' : Hp} {ts : List Addr} {cs : List (Str × Bool)} (h : PairsAt H ts cs) (s : Same H H') : PairsAt H' ts cs := ⟨h.1, fun i t c a b => s _ _ (h.2 i t c a b)⟩
theorem PairsAt.nil {H : Hp} : PairsAt H [] [] := ⟨rfl, fun i t c h => by cases h⟩
theorem PairsAt.cons {H : Hp} {t : Addr} {c : Str × Bool} {ts : List Addr} {cs : List (Str × Bool)} (e : H t = some (.tup [.str c.1, .bl c.2])) (h : PairsAt H ts cs) : PairsAt H (t :: ts) (c :: cs) := by
  refine ⟨by rw [List.length_cons, List.length_cons, h.1], fun i t' c' h1 h2 => ?_⟩
  cases i with
  | zero => cases h1; cases h2; exact e
  | succ i => exact h.2 i t' c' h1 h2
end MG

namespace K18
open PySem PySem.Spec PyProof.Rows L2 MG
def topS (i : Nat) : Stmt := PySem.Challenge.pw_matchgift_k18_odd_ones_and_twos.main.body.getD i (.Pass ⟨0, 0, 0, 0⟩)
abbrev sBox : Stmt := topS 23
abbrev sTake : Stmt := topS 24
abbrev sOf : Stmt := topS 25
theorem same_upd {H : Hp} {p : Addr} {o : HO} (h : H p = none) : Same H (upd H p o) := fun b x e => by
  rw [upd_ne (ne_of_none e h)]
  exact e
theorem scBox : FnScope ["_law_script", "_law_k", "_law_cell", "_law_own"] ["_law_script", "_law_k"] (defScope sBox) := ⟨rfl, rfl, rfl, by decide +kernel, rfl, by decide +kernel, by decide +kernel⟩
theorem scTake : FnScope ["_law_box_here", "_law_many", "_law_digit", "_law_mixed"] ["_law_box_here", "_law_many"] (defScope sTake) := ⟨rfl, rfl, rfl, by decide +kernel, rfl, by decide +kernel, by decide +kernel⟩
theorem scOf : FnScope ["_law_box_here", "_law_some"] ["_law_box_here", "_law_some"] (defScope sOf) := ⟨rfl, rfl, rfl, by decide +kernel, rfl, by decide +kernel, by decide +kernel⟩

def Box (H : Hp) (b : Addr) (n : Nat) : Prop := ∃ o m c : Int, H b = some (.lst [.int o, .int m, .int c]) ∧ 0 ≤ o ∧ o < 10 ^ 240 ∧ 0 ≤ m ∧ m < 2305843009213693921 ∧ 0 ≤ c ∧ c ≤ n
theorem Box.le {H : Hp} {b : Addr} {n n' : Nat} (h : Box H b n) (hn : n ≤ n') : Box H b n' := by
  obtain ⟨o, m, c, e, h1, h2, h3, h4, h5, h6⟩ := h
  exact ⟨o, m, c, e, h1, h2, h3, h4, h5, by omega⟩

theorem bit (b : Bool) : (-(2 ^ 64) : Int) < (if b = true then 1 else 0) ∧ (if b = true then (1 : Int) else 0) < 2 ^ 64 := by
  cases b <;> decide
theorem modb (x : Int) : (-(2 ^ 64) : Int) < x % 2305843009213693921 ∧ x % 2305843009213693921 < 2 ^ 64 := by
  have h1 := Int.emod_nonneg x (show (2305843009213693921 : Int) ≠ 0 by decide)
  have h2 := Int.emod_lt_of_pos x (show (0 : Int) < 2305843009213693921 by decide)
  omega
theorem own0 (x : Int) (b : Bool) : 0 ≤ x % 10 ^ 240 * (if b = true then 1 else 0) := by
  have := Int.emod_nonneg x (show (10 : Int) ^ 240 ≠ 0 by decide)
  cases b with
  | false => rw [if_neg Bool.false_ne_true]; omega
  | true => rw [if_pos rfl]; omega
theorem own1 (x : Int) (b : Bool) : x % 10 ^ 240 * (if b = true then 1 else 0) < 10 ^ 240 := by
  have := Int.emod_lt_of_pos x (show (0 : Int) < 10 ^ 240 by decide)
  cases b with
  | false => rw [if_neg Bool.false_ne_true, Int.mul_zero]; decide
  | true => rw [if_pos rfl, Int.mul_one]; exact this
section
variable {P : Program} {w : World} {K : PySem.W.Frag} {mg : Str → Option Value} {base : Heap}
def spBox (K : PySem.W.Frag) : Sp := fun vs H Q _ => ∃ (a : Addr) (ns : List Int) (k : Int), vs = [.ref a, .int k] ∧ SqL K H a (ns.map V.int) ∧ 0 ≤ k ∧ k ≤ 63 ∧
  ∀ p H', H p = none → Same H H' → Box H' p 0 → (∀ a, a ≠ p → H' a = H a) → Q (.ref p) H'
theorem ok_box {f : Addr} {fd : FuncData} {k : Nat} (F : Fun K "_law_box" "_law_box" sBox f fd) (ml : mg "len" = none) (mab : mg "abs" = none) (mI : mg "int" = none) :
    FnOk P w K mg base CX0 (k + 1) f fd ["_law_script", "_law_k"] (spBox K) := by
  refine F.ok scBox (fun vs H Q E h => ?_) (fun cdv A outer s H vs Q E hr h => ?_)
  · obtain ⟨a, ns, k, rfl, _⟩ := h
    rfl
  · obtain ⟨a, ns, k, rfl, hS, k0, k1, q⟩ := h
    refine ⟨_, pss_cons (ps_set (i := 2) scBox.nd rfl (.inl rfl) (pe_ifExp
          (pt_cmpR op_lt (pv 1) (pe_callB call_len_seq (by rfl) ml PySem.boot_len (pa_cons (pv 0) pa_nil)) (nomark _))
          (pe_ix ix_list (pv 0) (pv 1) (fun _ _ => rfl)) pe_int))
      (pss_cons (ps_set (i := 3) scBox.nd rfl (.inl rfl) (pe_op op_mul
          (pe_op op_mod (pe_callB call_abs (by rfl) mab (by decide +kernel) (pa_cons (pv 2) pa_nil))
            (pe_op op_mulW (pe_op op_mulW (pe_op op_mulW (pe_op op_pow pe_int pe_int) (pe_op op_pow pe_int pe_int)) (pe_op op_pow pe_int pe_int)) (pe_op op_pow pe_int pe_int)))
          (pe_callTy call_int1 (by rfl) mI (by decide +kernel) (pa_cons (pe_cmpR op_ge (pe_callB call_abs (by rfl) mab (by decide +kernel) (pa_cons (pv 2) pa_nil)) (pe_op op_pow pe_int pe_int) (nomark _)) pa_nil))))
      (pss_one (ps_ret (pe_lst (pa_cons (pv 3) (pa_cons
          (pe_op op_mod (pe_op op_mul (pe_op op_add (pe_op op_add (pe_op op_mod (pv 2) pe_int) (pe_op op_mul (pe_op op_mul pe_int (pv 1)) (pv 1))) pe_int) pe_int) pe_int)
          (pa_cons pe_int pa_nil))))))), ?_⟩
    have fin : ∀ o : Int, 0 ≤ o → o < 10 ^ 240 → ∀ m : Int, 0 ≤ m → m < 2305843009213693921 → ∀ p, H p = none → Q (.ref p) (upd H p (.lst [.int o, .int m, .int 0])) := by
      intro o o0 o1 m m0 m1 p hp
      refine q p _ hp (same_upd hp) ⟨o, m, 0, upd_same, o0, o1, m0, m1, by omega, by omega⟩ ?_
      intro a ha
      exact upd_ne ha
    have kk : (-(2 ^ 64) : Int) < k ∧ k < 2 ^ 64 := ⟨by omega, by omega⟩
    have w1 : CMulW ((10 : Int) ^ (60 : Int).toNat) (10 ^ (60 : Int).toNat) := by unfold CMulW; decide +kernel
    have w2 : CMulW ((10 : Int) ^ (60 : Int).toNat * 10 ^ (60 : Int).toNat) (10 ^ (60 : Int).toNat) := by unfold CMulW; decide +kernel
    have w3 : CMulW ((10 : Int) ^ (60 : Int).toNat * 10 ^ (60 : Int).toNat * 10 ^ (60 : Int).toNat) (10 ^ (60 : Int).toNat) := by unfold CMulW; decide +kernel
    have cp : CPow 10 60 := ⟨by decide, by decide, by decide⟩
    have cq : CPow 10 18 := ⟨by decide, by decide, by decide⟩
    have pos : (0 : Int) < 10 ^ (60 : Int).toNat * 10 ^ (60 : Int).toNat * 10 ^ (60 : Int).toNat * 10 ^ (60 : Int).toNat := by decide +kernel
    have emod : (10 : Int) ^ (60 : Int).toNat * 10 ^ (60 : Int).toNat * 10 ^ (60 : Int).toNat * 10 ^ (60 : Int).toNat = 10 ^ 240 := by decide +kernel
    refine ⟨_, rfl, .ref a, rfl, a, _, rfl, .inl hS, _, _, rfl, rfl, _, rfl, ite2 (fun hk => ?_) (fun hk => ?_)⟩
    · have hk' := of_decide_eq_true hk
      rw [List.length_map] at hk'
      obtain ⟨j, rfl⟩ : ∃ j : Nat, k = (j : Int) := ⟨k.toNat, by omega⟩
      have hj : j < ns.length := by omega
      refine ⟨.ref a, rfl, _, rfl, a, _, (j : Int), .int ns[j], rfl, rfl, hS, atI_nat (by rw [List.getElem?_map, List.getElem?_eq_getElem hj]; rfl), ?_⟩
      generalize ns[j] = cell
      refine ⟨.int cell, rfl, cell, rfl, 10, 60, rfl, rfl, cp, 10, 60, rfl, rfl, cp, _, _, rfl, rfl, w1, 10, 60, rfl, rfl, cp, _, _, rfl, rfl, w2, 10, 60, rfl, rfl, cp, _, _, rfl, rfl, w3, _, _, rfl, rfl, pos, ?_⟩
      refine ⟨.int cell, rfl, cell, rfl, 10, 18, rfl, rfl, cq, _, _, rfl, rfl, .inr ⟨_, rfl, _, _, rfl, rfl, .inr (bit _), ?_⟩⟩
      refine ⟨_, rfl, _, rfl, cell, 2305843009213693951, rfl, rfl, (by show (0 : Int) < 2305843009213693951; decide), _, rfl, 7919, (j : Int), rfl, rfl, .inl ⟨by decide, by decide⟩, _, rfl, _, (j : Int), rfl, rfl, .inr kk, _, _, rfl, rfl, _, 43, rfl, rfl, _, 48271, rfl, rfl, .inr ⟨by decide, by decide⟩, _, _, rfl, rfl, (by show (0 : Int) < 2305843009213693921; decide), ?_⟩
      refine ⟨by show 3 ≤ sizeLine; decide, ?_⟩
      rw [emod]
      exact fin _ (own0 _ _) (own1 _ _) _ (Int.emod_nonneg _ (by decide)) (Int.emod_lt_of_pos _ (by decide))
    · skip
      refine ⟨.int 0, rfl, 0, rfl, 10, 60, rfl, rfl, cp, 10, 60, rfl, rfl, cp, _, _, rfl, rfl, w1, 10, 60, rfl, rfl, cp, _, _, rfl, rfl, w2, 10, 60, rfl, rfl, cp, _, _, rfl, rfl, w3, _, _, rfl, rfl, pos, ?_⟩
      refine ⟨.int 0, rfl, 0, rfl, 10, 18, rfl, rfl, cq, _, _, rfl, rfl, .inr ⟨_, rfl, _, _, rfl, rfl, .inr (bit _), ?_⟩⟩
      refine ⟨_, rfl, _, rfl, 0, 2305843009213693951, rfl, rfl, (by show (0 : Int) < 2305843009213693951; decide), _, rfl, 7919, k, rfl, rfl, .inl ⟨by decide, by decide⟩, _, rfl, _, k, rfl, rfl, .inr kk, _, _, rfl, rfl, _, 43, rfl, rfl, _, 48271, rfl, rfl, .inr ⟨by decide, by decide⟩, _, _, rfl, rfl, (by show (0 : Int) < 2305843009213693921; decide), ?_⟩
      refine ⟨by show 3 ≤ sizeLine; decide, ?_⟩
      rw [emod]
      exact fin _ (own0 _ _) (own1 _ _) _ (Int.emod_nonneg _ (by decide)) (Int.emod_lt_of_pos _ (by decide))

def spTake : Sp := fun vs H Q _ => ∃ b many n, vs = [.ref b, .int many] ∧ Box H b n ∧ n ≤ 1000000 ∧ 1 ≤ many ∧ many ≤ 10 ^ 40 ∧
  ∀ r H', 0 ≤ r → r < many → Box H' b (n + 1) → (∀ a, a ≠ b → H' a = H a) → Q (.int r) H'
theorem ok_take {f : Addr} {fd : FuncData} {k : Nat} (F : Fun K "_law_take" "_law_take" sTake f fd) :
    FnOk P w K mg base CX0 (k + 1) f fd ["_law_box_here", "_law_many"] spTake := by
  refine F.ok scTake (fun vs H Q E h => ?_) (fun cdv A outer s H vs Q E hr h => ?_)
  · obtain ⟨b, many, n, rfl, _⟩ := h
    rfl
  · obtain ⟨b, many, n, rfl, ⟨o, m, c, e, h1, h2, h3, h4, h5, h6⟩, hn, m1, m2, q⟩ := h
    refine ⟨_, pss_cons (ps_if (pt_cmpR op_gt (pe_ix ix_list (pv 0) pe_int (fun _ _ => rfl)) pe_int (nomark _))
        (pss_cons (ps_set (i := 2) scTake.nd rfl (.inl rfl) (pe_op op_mod (pe_ix ix_list (pv 0) pe_int (fun _ _ => rfl)) (pv 1)))
        (pss_cons (ps_asg (pe_op op_fdivW (pe_ix ix_list (pv 0) pe_int (fun _ _ => rfl)) (pv 1)) (pg_sub (pv 0) pe_int set_list))
        (pss_one (ps_ret (pv 2))))) pss_nil)
      (pss_cons (ps_asg (pe_op op_add (pe_ix ix_list (pv 0) pe_int (fun _ _ => rfl)) pe_int) (pg_sub (pv 0) pe_int set_list))
      (pss_cons (ps_set (i := 3) scTake.nd rfl (.inl rfl) (pe_op op_mod (pe_op op_mul
          (pe_op op_add (pe_op op_add (pe_ix ix_list (pv 0) pe_int (fun _ _ => rfl)) (pe_op op_mul (pe_op op_mul pe_int (pe_ix ix_list (pv 0) pe_int (fun _ _ => rfl))) (pe_ix ix_list (pv 0) pe_int (fun _ _ => rfl)))) pe_int) pe_int) pe_int))
      (pss_cons (ps_set (i := 3) scTake.nd rfl (.inl rfl) (pe_op op_mod (pe_op op_mul (pv 3)
          (pe_op op_add (pe_op op_mod (pv 3) pe_int) (pe_op op_mul pe_int (pe_ix ix_list (pv 0) pe_int (fun _ _ => rfl))))) pe_int))
      (pss_one (ps_ret (pe_op op_mod (pe_op op_add (pe_op op_fdiv (pv 3) pe_int) (pe_op op_fdiv (pv 3) pe_int)) (pv 1))))))), ?_⟩
    have hdiv : CDivW o many := wide_div (b := 200) (by omega) (by omega) (by decide) (by decide)
    have hmany : (fun (_ j : Int) => 0 < j) o many := show 0 < many by omega
    refine ⟨.ref b, rfl, b, _, 0, .int o, rfl, rfl, SqL.of e, atI_nat (j := 0) rfl, o, 0, rfl, rfl, _, rfl, ite2 (fun ho => ?_) (fun ho => ?_)⟩
    · refine ⟨.ref b, rfl, b, _, 0, .int o, rfl, rfl, SqL.of e, atI_nat (j := 0) rfl, _, rfl, o, many, rfl, rfl, hmany, ?_⟩
      refine ⟨.ref b, rfl, b, _, 0, .int o, rfl, rfl, SqL.of e, atI_nat (j := 0) rfl, _, rfl, o, many, rfl, rfl, hdiv, .ref b, rfl, b, _, 0, 0, rfl, rfl, e, rfl, ?_⟩
      refine ⟨_, rfl, ?_⟩
      refine q _ _ (Int.emod_nonneg _ (by omega)) (Int.emod_lt_of_pos _ (by omega)) ⟨o / many, m, c, upd_same, ?_, ?_, h3, h4, h5, by omega⟩ ?_
      · exact Int.ediv_nonneg h1 (by omega)
      · exact Int.lt_of_le_of_lt (Int.ediv_le_self _ h1) h2
      · intro a ha
        exact upd_ne ha
    · have hc1 : (-(2 ^ 64) : Int) < c + 1 ∧ c + 1 < 2 ^ 64 := ⟨by omega, by omega⟩
      refine ⟨.ref b, rfl, b, _, 2, .int c, rfl, rfl, SqL.of e, atI_nat (j := 2) rfl, c, 1, rfl, rfl, .ref b, rfl, b, _, 2, 2, rfl, rfl, e, rfl, ?_⟩
      generalize hH : upd H b (HO.lst (List.set [V.int o, V.int m, V.int c] 2 (V.int (c + 1)))) = H2
      have e2 : H2 b = some (.lst [.int o, .int m, .int (c + 1)]) := by rw [← hH]; exact upd_same
      have off : ∀ a, a ≠ b → H2 a = H a := fun a ha => by rw [← hH]; exact upd_ne ha
      refine ⟨.ref b, rfl, b, _, 1, .int m, rfl, rfl, SqL.of e2, atI_nat (j := 1) rfl, .ref b, rfl, b, _, 2, .int (c + 1), rfl, rfl, SqL.of e2, atI_nat (j := 2) rfl, 65537, c + 1, rfl, rfl, .inr hc1, .ref b, rfl, b, _, 2, .int (c + 1), rfl, rfl, SqL.of e2, atI_nat (j := 2) rfl, _, c + 1, rfl, rfl, .inr hc1, m, _, rfl, rfl, _, 11, rfl, rfl, _, 48271, rfl, rfl, .inr ⟨by decide, by decide⟩, _, _, rfl, rfl, (by show (0 : Int) < 2305843009213693921; decide), ?_⟩
      refine ⟨_, rfl, _, rfl, _, 1000003, rfl, rfl, (by show (0 : Int) < 1000003; decide), .ref b, rfl, b, _, 2, .int (c + 1), rfl, rfl, SqL.of e2, atI_nat (j := 2) rfl, 99991, c + 1, rfl, rfl, .inr hc1, _, _, rfl, rfl, _, _, rfl, rfl, .inl (modb _), _, _, rfl, rfl, (by show (0 : Int) < 2305843009213693907; decide), ?_⟩
      refine ⟨_, rfl, _, 97, rfl, rfl, ⟨by decide, by decide⟩, _, rfl, _, 1000033, rfl, rfl, ⟨by decide, by decide⟩, _, _, rfl, rfl, .int many, rfl, _, many, rfl, rfl, (by show (0 : Int) < many; omega), ?_⟩
      refine q _ _ (Int.emod_nonneg _ (by omega)) (Int.emod_lt_of_pos _ (by omega)) ⟨o, m, c + 1, e2, h1, h2, h3, h4, by omega, by omega⟩ off

def spOf : Sp := fun vs H Q _ => ∃ b l n xs, vs = [.ref b, .ref l] ∧ Box H b n ∧ n ≤ 1000000 ∧ H l = some (.lst xs) ∧ b ≠ l ∧ 1 ≤ xs.length ∧ xs.length ≤ 1000 ∧
  ∀ x H', x ∈ xs → Box H' b (n + 1) → (∀ a, a ≠ b → H' a = H a) → Q x H'
theorem ok_of {f fT : Addr} {fd fdT : FuncData} {k : Nat} (F : Fun K "_law_of" "_law_of" sOf f fd) (FT : Fun K "_law_take" "_law_take" sTake fT fdT) (bT : Binds K fdT ["_law_box_here", "_law_many"] [])
    (gT : mg "_law_take" = some (.ref fT)) (ml : mg "len" = none) :
    FnOk P w K mg base CX0 (k + 2) f fd ["_law_box_here", "_law_some"] spOf := by
  have GT : FnOk P w K mg base CX0 (k + 1) fT fdT ["_law_box_here", "_law_many"] spTake := ok_take FT
  refine F.ok scOf (fun vs H Q E h => ?_) (fun cdv A outer s H vs Q E hr h => ?_)
  · obtain ⟨b, l, n, xs, rfl, _⟩ := h
    rfl
  · obtain ⟨b, l, n, xs, rfl, hB, hn, hx, ne, l1, l2, q⟩ := h
    refine ⟨_, pss_one (ps_ret (pe_ix ix_list (pv 1) (pe_call GT hr (by rfl) gT FT.kp bT .nil pass0 (pa_cons (pv 0) (pa_cons
      (pe_callB call_len_seq (by rfl) ml PySem.boot_len (pa_cons (pv 1) pa_nil)) pa_nil))) (fun _ _ => rfl))), ?_⟩
    refine ⟨.ref l, rfl, .ref b, rfl, .ref l, rfl, l, xs, rfl, .inl (SqL.of hx), b, (xs.length : Int), n, rfl, hB, hn, by omega, by omega, ?_⟩
    intro r H' r0 r1 hB' hk
    have hxl : H' l = some (.lst xs) := by rw [hk l (Ne.symm ne)]; exact hx
    obtain ⟨j, rfl⟩ : ∃ j : Nat, r = (j : Int) := ⟨r.toNat, by omega⟩
    have hj : j < xs.length := by omega
    exact ⟨l, xs, (j : Int), xs[j], rfl, rfl, SqL.of hxl, atI_nat (List.getElem?_eq_getElem hj), q _ H' (List.getElem_mem hj) hB' hk⟩
end
/-! ### what stays while the box is drawn from -/
def SX (b : Addr) (H H' : Hp) : Prop := ∀ a o, a ≠ b → H a = some o → H' a = some o
theorem SX.refl (b : Addr) (H : Hp) : SX b H H := fun _ _ _ h => h
theorem SX.trans {b : Addr} {H H1 H2 : Hp} (x : SX b H H1) (y : SX b H1 H2) : SX b H H2 := fun a o n h => y a o n (x a o n h)
theorem SX.of_same {b : Addr} {H H' : Hp} (h : Same H H') : SX b H H' := fun a o _ e => h a o e
theorem SX.of_eq {b : Addr} {H H' : Hp} (h : ∀ a, a ≠ b → H' a = H a) : SX b H H' := fun a o n e => by rw [h a n]; exact e
theorem SX.new {b : Addr} {H H' : Hp} {p : Addr} {o : HO} (x : SX b H H') (hp : H' p = none) : SX b H (upd H' p o) := x.trans (.of_same (same_upd hp))
theorem SX.free {b p : Addr} {H H' : Hp} {n : Nat} (x : SX b H H') (hB : Box H' b n) (h : H' p = none) : H p = none := by
  cases e : H p with
  | none => rfl
  | some o =>
    by_cases hb : p = b
    · subst hb
      obtain ⟨_, _, _, z, _⟩ := hB
      rw [h] at z
      cases z
    · rw [x p o hb e] at h
      cases h
theorem Box.at {H H' : Hp} {b : Addr} {n : Nat} (h : Box H b n) (e : H' b = H b) : Box H' b n := by
  obtain ⟨o, m, c, z, r⟩ := h
  exact ⟨o, m, c, by rw [e]; exact z, r⟩
theorem Box.new {H : Hp} {b p : Addr} {n : Nat} {o : HO} (h : Box H b n) (hp : H p = none) : Box (upd H p o) b n := by
  obtain ⟨_, _, _, z, _⟩ := id h
  exact h.at (upd_ne (ne_of_none z hp))
theorem Box.some {H : Hp} {b : Addr} {n : Nat} (h : Box H b n) : H b ≠ none := by
  obtain ⟨_, _, _, z, _⟩ := h
  rw [z]
  exact fun q => nomatch q

end K18

namespace K18
open PySem PySem.Spec PyProof.Rows L2 MG
abbrev sTwosIn : Stmt := topS 1
abbrev sOddPart : Stmt := topS 2
abbrev sCommon : Stmt := topS 3
abbrev sUnit : Stmt := topS 4
abbrev sMeasure : Stmt := topS 5
abbrev sTwos : Stmt := topS 6
abbrev sOddOnes : Stmt := topS 7
theorem scTwosIn : FnScope ["n"] ["n"] (defScope sTwosIn) := ⟨rfl, rfl, rfl, by decide +kernel, rfl, by decide +kernel, by decide +kernel⟩
theorem scOddPart : FnScope ["n"] ["n"] (defScope sOddPart) := ⟨rfl, rfl, rfl, by decide +kernel, rfl, by decide +kernel, by decide +kernel⟩
theorem scCommon : FnScope ["a", "b"] ["a", "b"] (defScope sCommon) := ⟨rfl, rfl, rfl, by decide +kernel, rfl, by decide +kernel, by decide +kernel⟩
theorem scUnit : FnScope ["row", "greatest", "amount"] ["row"] (defScope sUnit) := ⟨rfl, rfl, rfl, by decide +kernel, rfl, by decide +kernel, by decide +kernel⟩
theorem scMeasure : FnScope ["row"] ["row"] (defScope sMeasure) := ⟨rfl, rfl, rfl, by decide +kernel, rfl, by decide +kernel, by decide +kernel⟩
theorem scTwos : FnScope ["row"] ["row"] (defScope sTwos) := ⟨rfl, rfl, rfl, by decide +kernel, rfl, by decide +kernel, by decide +kernel⟩
theorem scOddOnes : FnScope ["row", "fewest_twos", "amount"] ["row"] (defScope sOddOnes) := ⟨rfl, rfl, rfl, by decide +kernel, rfl, by decide +kernel, by decide +kernel⟩

theorem gl_take_succ (ns : List Int) (i : Nat) (h : i < ns.length) : gl (ns.take (i + 1)) = Nat.gcd (gl (ns.take i)) ns[i].toNat := by
  rw [List.take_add_one, List.getElem?_eq_getElem h, gl_append]
  show Nat.gcd _ (Nat.gcd _ 0) = _
  rw [Nat.gcd_zero_right]

section
variable {P : Program} {w : World} {K : PySem.W.Frag} {mg : Str → Option Value} {base : Heap}
def spTwosIn : Sp := fun vs H Q _ => ∃ n : Int, vs = [.int n] ∧ 0 < n ∧ Q (.int (v2 n.toNat : Nat)) H
theorem ok_twosIn {f : Addr} {fd : FuncData} {k : Nat} (F : Fun K "twos_in" "twos_in" sTwosIn f fd) : FnOk P w K mg base CX0 (k + 1) f fd ["n"] spTwosIn := by
  refine F.ok scTwosIn (fun vs H Q E h => ?_) (fun cdv A outer s H vs Q E hr h => ?_)
  · obtain ⟨n, rfl, _⟩ := h
    rfl
  · obtain ⟨n, rfl, hn, q⟩ := h
    refine ⟨_, pss_one (ps_ret (pe_op op_sub (pe_bits (pe_op op_and (pv 0) (pe_un un_neg (pv 0)))) pe_int)), ?_⟩
    refine ⟨_, rfl, _, rfl, n, rfl, n, -n, rfl, rfl, _, rfl, _, 1, rfl, rfl, ?_⟩
    rw [low_bit hn, bits_pow]
    show Q (.int (((v2 n.toNat + 1 : Nat) : Int) - 1)) H
    rw [show (((v2 n.toNat + 1 : Nat) : Int) - 1) = ((v2 n.toNat : Nat) : Int) by omega]
    exact q
def spOddPart : Sp := fun vs H Q _ => ∃ n : Int, vs = [.int n] ∧ 0 < n ∧ Q (.int (n / 2 ^ v2 n.toNat)) H
theorem ok_oddPart {f fT : Addr} {fd fdT : FuncData} {k : Nat} (F : Fun K "odd_part" "odd_part" sOddPart f fd) (FT : Fun K "twos_in" "twos_in" sTwosIn fT fdT) (bT : Binds K fdT ["n"] []) (gT : mg "twos_in" = some (.ref fT)) :
    FnOk P w K mg base CX0 (k + 2) f fd ["n"] spOddPart := by
  have GT : FnOk P w K mg base CX0 (k + 1) fT fdT ["n"] spTwosIn := ok_twosIn FT
  refine F.ok scOddPart (fun vs H Q E h => ?_) (fun cdv A outer s H vs Q E hr h => ?_)
  · obtain ⟨n, rfl, _⟩ := h
    rfl
  · obtain ⟨n, rfl, hn, q⟩ := h
    refine ⟨_, pss_one (ps_ret (pe_op op_shr (pv 0) (pe_call GT hr (by rfl) gT FT.kp bT .nil pass0 (pa_cons (pv 0) pa_nil)))), ?_⟩
    refine ⟨_, rfl, _, rfl, n, rfl, hn, n, _, rfl, rfl, Int.natCast_nonneg _, ?_⟩
    exact q
def spCommon : Sp := fun vs H Q _ => ∃ a b : Nat, vs = [.int a, .int b] ∧ Q (.int (Nat.gcd a b : Nat)) H
theorem ok_common {f : Addr} {fd : FuncData} {k : Nat} (F : Fun K "common_part" "common_part" sCommon f fd) : FnOk P w K mg base CX0 (k + 1) f fd ["a", "b"] spCommon := by
  refine F.ok scCommon (fun vs H Q E h => ?_) (fun cdv A outer s H vs Q E hr h => ?_)
  · obtain ⟨a, b, rfl, _⟩ := h
    rfl
  · obtain ⟨a, b, rfl, q⟩ := h
    refine ⟨_, pss_cons (ps_while PassesOwn.never (pt_cmpR op_gt (pv 1) pe_int (nomark _)) (pss_one (ps_par (i := 0) (j := 1) rfl scCommon.nd rfl rfl (by decide) rfl rfl (pa_cons (pv 1) (pa_cons (pe_op op_mod (pv 0) (pv 1)) pa_nil)) (by rfl))))
      (pss_one (ps_ret (pv 0))), ?_⟩
    refine while_by (fun σ H' => ∃ x y : Nat, σ = [some (.int x), some (.int y)] ∧ H' = H ∧ Nat.gcd x y = Nat.gcd a b) (fun σ _ => match σ with | [_, some (.int y)] => y.toNat | _ => 0) ⟨a, b, rfl, rfl, rfl⟩ ?_ ?_
    · rintro σ H' ⟨x, y, rfl, rfl, hg⟩
      refine ⟨_, rfl, (y : Int), 0, rfl, rfl, _, rfl, ite2 (fun hy => ?_) (fun hy => ?_)⟩
      · have hy' : 0 < y := by have := of_decide_eq_true hy; omega
        refine ⟨_, rfl, _, rfl, _, rfl, (x : Int), (y : Int), rfl, rfl, (by show (0 : Int) < y; omega), _, _, rfl, ⟨y, x % y, ?_, rfl, ?_⟩, ?_⟩
        · rw [Int.natCast_emod]; rfl
        · rw [← hg, Nat.gcd_comm x y, Nat.gcd_rec y x, Nat.gcd_comm]
        · show ((x : Int) % (y : Int)).toNat < (y : Int).toNat
          rw [← Int.natCast_emod]
          have := Nat.mod_lt x hy'
          omega
      · have hy' : y = 0 := by
          have : ¬ (y : Int) > 0 := fun z => hy (decide_eq_true z)
          omega
        subst hy'
        rw [Nat.gcd_zero_right] at hg
        refine ⟨_, rfl, ?_⟩
        rw [hg]
        exact q
    · rintro σ H' Q1 Q2 hq ⟨x, e1, i, j, e2, e3, z, e4, h⟩
      exact ⟨x, e1, i, j, e2, e3, z, e4, hq _ _ h⟩
def Row (H : Hp) (a : Addr) (ns : List Int) : Prop := H a = some (.tup (ns.map V.int)) ∧ (∀ n ∈ ns, 0 ≤ n ∧ n < 2 ^ 250) ∧ ns.length ≤ 40 ∧ ∃ n ∈ ns, 0 < n
theorem Row.same {H H' : Hp} {a : Addr} {ns : List Int} (r : Row H a ns) (s : Same H H') : Row H' a ns := ⟨s _ _ r.1, r.2⟩
theorem Row.pos {H : Hp} {a : Addr} {ns : List Int} (r : Row H a ns) : 0 < gl ns := by
  obtain ⟨_, _, _, n, hn, h0⟩ := r
  exact gl_pos hn h0
theorem Row.lt {H : Hp} {a : Addr} {ns : List Int} (r : Row H a ns) : (gl ns : Int) < 2 ^ 250 := by
  obtain ⟨_, hb, _, n, hn, h0⟩ := r
  exact Int.lt_of_le_of_lt (gl_le hn h0) (hb n hn).2
def spUnit : Sp := fun vs H Q _ => ∃ a ns, vs = [.ref a] ∧ Row H a ns ∧ Q (.int (gl ns : Nat)) H
theorem ok_unit {f fC : Addr} {fd fdC : FuncData} {k : Nat} (F : Fun K "unit" "unit" sUnit f fd) (FC : Fun K "common_part" "common_part" sCommon fC fdC) (bC : Binds K fdC ["a", "b"] []) (gC : mg "common_part" = some (.ref fC)) :
    FnOk P w K mg base CX0 (k + 2) f fd ["row"] spUnit := by
  have GC : FnOk P w K mg base CX0 (k + 1) fC fdC ["a", "b"] spCommon := ok_common FC
  refine F.ok scUnit (fun vs H Q E h => ?_) (fun cdv A outer s H vs Q E hr h => ?_)
  · obtain ⟨a, ns, rfl, _⟩ := h
    rfl
  · obtain ⟨a, ns, rfl, r, q⟩ := h
    refine ⟨_, pss_cons (ps_set (i := 1) scUnit.nd rfl (.inl rfl) pe_int) (pss_cons (ps_for PassesOwn.never rfl (pi_tup (pv 0)) (pg_name (i := 2) scUnit.nd rfl (.inl rfl))
        (pss_one (ps_set (i := 1) scUnit.nd rfl (.inl rfl) (pe_call GC hr (by rfl) gC FC.kp bC .nil pass0 (pa_cons (pv 1) (pa_cons (pv 2) pa_nil))))))
      (pss_one (ps_ret (pv 1)))), ?_⟩
    refine ⟨.ref a, rfl, a, rfl, ⟨_, SqT.of r.1⟩, ?_⟩
    refine for_tup (K := K) (a := a) (xs := ns.map V.int) (fun i σ H' => ∃ y2, σ = [some (.ref a), some (.int (gl (ns.take i) : Nat)), y2] ∧ H' = H) ⟨none, rfl, rfl⟩ ?_ ?_ ?_
    · rintro i σ H' _ ⟨y2, rfl, rfl⟩
      exact SqT.of r.1
    · rintro i x σ H' hx ⟨y2, rfl, rfl⟩
      rw [List.getElem?_map] at hx
      obtain ⟨n, hn, rfl⟩ := Option.map_eq_some_iff.mp hx
      obtain ⟨hi, hn'⟩ := List.getElem?_eq_some_iff.mp hn
      have h0 : 0 ≤ n := (r.2.1 n (List.mem_of_getElem? hn)).1
      refine ⟨_, rfl, _, rfl, gl (ns.take i), n.toNat, by rw [Int.toNat_of_nonneg h0]; rfl, some (.int n), ?_, rfl⟩
      rw [gl_take_succ ns i hi, hn']
      rfl
    · rintro σ H' ⟨y2, rfl, rfl⟩
      rw [List.length_map, List.take_length]
      exact ⟨_, rfl, q⟩
def spMeasure : Sp := fun vs H Q _ => ∃ a ns, vs = [.ref a] ∧ Row H a ns ∧ Q (.int ((gl ns : Nat) / 2 ^ v2 (gl ns))) H
def spTwos : Sp := fun vs H Q _ => ∃ a ns, vs = [.ref a] ∧ Row H a ns ∧ Q (.int (v2 (gl ns) : Nat)) H
theorem ok_measure {f fO fU : Addr} {fd fdO fdU : FuncData} {k : Nat} (F : Fun K "measure" "measure" sMeasure f fd) (FO : Fun K "odd_part" "odd_part" sOddPart fO fdO) (bO : Binds K fdO ["n"] []) (gO : mg "odd_part" = some (.ref fO)) (GO : FnOk P w K mg base CX0 (k + 2) fO fdO ["n"] spOddPart)
    (FU : Fun K "unit" "unit" sUnit fU fdU) (bU : Binds K fdU ["row"] []) (gU : mg "unit" = some (.ref fU)) (GU : FnOk P w K mg base CX0 (k + 2) fU fdU ["row"] spUnit) : FnOk P w K mg base CX0 (k + 3) f fd ["row"] spMeasure := by
  refine F.ok scMeasure (fun vs H Q E h => ?_) (fun cdv A outer s H vs Q E hr h => ?_)
  · obtain ⟨a, ns, rfl, _⟩ := h
    rfl
  · obtain ⟨a, ns, rfl, r, q⟩ := h
    refine ⟨_, pss_one (ps_ret (pe_call GO hr (by rfl) gO FO.kp bO .nil pass0 (pa_cons (pe_call GU hr (by rfl) gU FU.kp bU .nil pass0 (pa_cons (pv 0) pa_nil)) pa_nil))), ?_⟩
    have := r.pos
    refine ⟨_, rfl, a, ns, rfl, r, _, rfl, by omega, ?_⟩
    rw [Int.toNat_natCast]
    exact q
theorem ok_twos {f fT fU : Addr} {fd fdT fdU : FuncData} {k : Nat} (F : Fun K "twos" "twos" sTwos f fd) (FT : Fun K "twos_in" "twos_in" sTwosIn fT fdT) (bT : Binds K fdT ["n"] []) (gT : mg "twos_in" = some (.ref fT)) (GT : FnOk P w K mg base CX0 (k + 1) fT fdT ["n"] spTwosIn)
    (FU : Fun K "unit" "unit" sUnit fU fdU) (bU : Binds K fdU ["row"] []) (gU : mg "unit" = some (.ref fU)) (GU : FnOk P w K mg base CX0 (k + 2) fU fdU ["row"] spUnit) : FnOk P w K mg base CX0 (k + 3) f fd ["row"] spTwos := by
  refine F.ok scTwos (fun vs H Q E h => ?_) (fun cdv A outer s H vs Q E hr h => ?_)
  · obtain ⟨a, ns, rfl, _⟩ := h
    rfl
  · obtain ⟨a, ns, rfl, r, q⟩ := h
    refine ⟨_, pss_one (ps_ret (pe_call GT (hr.mono (by omega)) (by rfl) gT FT.kp bT .nil pass0 (pa_cons (pe_call GU hr (by rfl) gU FU.kp bU .nil pass0 (pa_cons (pv 0) pa_nil)) pa_nil))), ?_⟩
    have := r.pos
    refine ⟨_, rfl, a, ns, rfl, r, _, rfl, by omega, ?_⟩
    rw [Int.toNat_natCast]
    exact q
def spOddOnes : Sp := fun vs H Q _ => ∃ a ns, vs = [.ref a] ∧ Row H a ns ∧ ∀ H', Same H H' → Q (.int ((fewT (v2 (gl ns)) ns).length : Nat)) H'
theorem fewT_succ (t : Nat) (ns : List Int) (i : Nat) (h : i < ns.length) : fewT t (ns.take (i + 1)) = fewT t (ns.take i) ++ (if (decide (ns[i] > 0) && decide (v2 ns[i].toNat ≤ t)) = true then [ns[i]] else []) := by
  unfold fewT
  rw [List.take_add_one, List.getElem?_eq_getElem h, List.filter_append]
  congr 1
  show List.filter _ [ns[i]] = _
  rw [List.filter_cons, List.filter_nil]
theorem ok_oddOnes {f fT fS : Addr} {fd fdT fdS : FuncData} {k : Nat} (F : Fun K "odd_ones" "odd_ones" sOddOnes f fd) (FT : Fun K "twos_in" "twos_in" sTwosIn fT fdT) (bT : Binds K fdT ["n"] []) (gT : mg "twos_in" = some (.ref fT)) (GT : FnOk P w K mg base CX0 (k + 1) fT fdT ["n"] spTwosIn)
    (FS : Fun K "twos" "twos" sTwos fS fdS) (bS : Binds K fdS ["row"] []) (gS : mg "twos" = some (.ref fS)) (GS : FnOk P w K mg base CX0 (k + 3) fS fdS ["row"] spTwos) (ml : mg "len" = none) : FnOk P w K mg base CX0 (k + 4) f fd ["row"] spOddOnes := by
  refine F.ok scOddOnes (fun vs H Q E h => ?_) (fun cdv A outer s H vs Q E hr h => ?_)
  · obtain ⟨a, ns, rfl, _⟩ := h
    rfl
  · obtain ⟨a, ns, rfl, r, q⟩ := h
    have hr1 := hr.mono (show k + 1 ≤ k + 3 by omega)
    refine ⟨_, pss_cons (ps_set (i := 1) scOddOnes.nd rfl (.inr rfl) (pe_call GS hr (by rfl) gS FS.kp bS .nil pass0 (pa_cons (pv 0) pa_nil)))
      (pss_one (ps_ret (pe_callB call_len_seq (by rfl) ml PySem.boot_len (pa_cons
        (pe_lc (own := [("amount", 2)]) (g := gName 2) rfl scOddOnes.nd (pi_tup (pv 0)) (blkOk_by (N := ["row", "fewest_twos", "amount"]) (sc := defScope sOddOnes) (by decide +kernel))
          (fun _ _ _ _ _ => pg_name (i := 2) scOddOnes.nd rfl (Or.inl rfl))
          (fun _ _ _ _ _ => pts_one (PW.pt (pw_and (pt_cmpR op_gt (pv 2) pe_int (nomark _)) (pw_and1 (pt_cmpR op_le (pe_call GT hr1 (by rfl) gT FT.kp bT .nil pass0 (pa_cons (pv 2) pa_nil)) (pv 1) (nomark _))))))
          (fun _ _ _ _ _ => pv 2)) pa_nil)))), ?_⟩
    refine ⟨_, rfl, a, ns, rfl, r, ?_⟩
    refine ⟨.ref a, rfl, a, rfl, ⟨_, SqT.of r.1⟩, fun D nD => ?_⟩
    refine lc_tup (K := K) (a := a) (xs := ns.map V.int) (fun i H' => Same H H' ∧ H' D = some (.lst ((fewT (v2 (gl ns)) (ns.take i)).map V.int))) ⟨same_upd nD, upd_same⟩ ?_ ?_ ?_
    · rintro i H' _ ⟨sm, _⟩
      exact SqT.of (sm _ _ r.1)
    · rintro i x H' hx ⟨sm, hD⟩
      rw [List.getElem?_map] at hx
      obtain ⟨n, hn, rfl⟩ := Option.map_eq_some_iff.mp hx
      obtain ⟨hi, hn'⟩ := List.getElem?_eq_some_iff.mp hn
      have small : ((fewT (v2 (gl ns)) (ns.take i)).map V.int).length < sizeLine := by
        rw [List.length_map]
        refine small1000 (Nat.le_trans (List.length_filter_le _ _) ?_)
        rw [List.length_take]
        have := r.2.2.1
        omega
      refine ⟨rfl, _, rfl, n, 0, rfl, rfl, _, rfl, ite2 (fun h1 => ?_) (fun h1 => ?_)⟩
      · have h1' : 0 < n := of_decide_eq_true h1
        refine ⟨_, rfl, n, rfl, h1', _, rfl, _, _, rfl, rfl, _, rfl, ite2 (fun h2 => ?_) (fun h2 => ?_)⟩
        · have h2' : v2 n.toNat ≤ v2 (gl ns) := by have := of_decide_eq_true h2; omega
          refine ⟨_, rfl, _, hD, small, ?_, ?_⟩
          · intro c o hc
            rw [upd_ne (ne_of_none hc nD)]
            exact sm c o hc
          · rw [upd_same, fewT_succ _ _ _ hi, hn', decide_eq_true h1', decide_eq_true h2', List.map_append]
            rfl
        · have h2' : ¬ v2 n.toNat ≤ v2 (gl ns) := fun z => h2 (decide_eq_true (by omega))
          refine ⟨sm, ?_⟩
          rw [fewT_succ _ _ _ hi, hn', decide_eq_false h2', Bool.and_false, if_neg Bool.false_ne_true, List.append_nil]
          exact hD
      · have h1' : ¬ n > 0 := fun z => h1 (decide_eq_true z)
        refine iteF ⟨sm, ?_⟩
        rw [fewT_succ _ _ _ hi, hn', decide_eq_false h1', Bool.false_and, if_neg Bool.false_ne_true, List.append_nil]
        exact hD
    · rintro H' ⟨sm, hD⟩
      rw [List.length_map, List.take_length] at hD
      refine ⟨D, _, rfl, .inl (SqL.of hD), ?_⟩
      rw [List.length_map]
      exact q H' sm
end
end K18

namespace K18
open PySem PySem.Spec PyProof.Rows L2 MG
abbrev sPlaces : Stmt := topS 26
theorem scPlaces : FnScope ["_law_box_here", "_law_amounts", "_law_nothing", "_law_left", "_law_found"] ["_law_box_here", "_law_amounts", "_law_nothing"] (defScope sPlaces) := ⟨rfl, rfl, rfl, by decide +kernel, rfl, by decide +kernel, by decide +kernel⟩
theorem Box.get {H : Hp} {b : Addr} {n : Nat} (h : Box H b n) : ∃ o, H b = Option.some o := by
  obtain ⟨_, _, _, z, _⟩ := h
  exact ⟨_, z⟩
/-- a change of what is new -/
theorem SX.set {b p : Addr} {H H' : Hp} {o : HO} (x : SX b H H') (hp : H p = none) : SX b H (upd H' p o) := fun a u na e => by
  rw [upd_ne (ne_of_none e hp)]
  exact x a u na e
theorem Box.set {H : Hp} {b p : Addr} {n : Nat} {o : HO} (h : Box H b n) (hp : b ≠ p) : Box (upd H p o) b n := h.at (upd_ne hp)
theorem erase_perm {α : Type} : ∀ (l : List α) (j : Nat) (h : j < l.length), (l[j] :: l.eraseIdx j).Perm l
  | x :: r, 0, _ => List.Perm.refl _
  | x :: r, j + 1, h => by
    have h' : j < r.length := by rw [List.length_cons] at h; omega
    show (r[j] :: x :: r.eraseIdx j).Perm (x :: r)
    exact (List.Perm.swap x r[j] _).trans ((erase_perm r j h').cons x)
theorem map_erase {α β : Type} (f : α → β) : ∀ (l : List α) (j : Nat), (l.map f).eraseIdx j = (l.eraseIdx j).map f
  | [], _ => rfl
  | x :: r, 0 => rfl
  | x :: r, j + 1 => by
    show f x :: (r.map f).eraseIdx j = f x :: (r.eraseIdx j).map f
    rw [map_erase f r j]
theorem dpInts {K : PySem.W.Frag} {H : Hp} : ∀ L : List Int, DpAll K H (L.map V.int) (L.map PyData.int)
  | [] => .nil
  | i :: L => .cons (.int i) (dpInts L)
theorem lay_ints : ∀ L : List Int, PyData.canLayAll0 (L.map PyData.int) = true
  | [] => rfl
  | i :: L => by
    rw [List.map_cons, PyData.canLayAll0, lay_ints L]
    rfl
theorem depth_ints : ∀ L : List Int, PyData.depthAll (L.map PyData.int) = 0
  | [] => rfl
  | i :: L => by
    rw [List.map_cons, PyData.depthAll, depth_ints L]
    rfl
theorem shaped_ints (L : List Int) : SeqAt.shaped (.list (L.map PyData.int)) = true := by
  unfold SeqAt.shaped
  rw [PyData.canLay0, lay_ints, PyData.depth, depth_ints]
  rfl
section
variable {P : Program} {w : World} {K : PySem.W.Frag} {mg : Str → Option Value} {base : Heap}
def spPlaces : Sp := fun vs H Q _ => ∃ (b pa : Addr) (ns : List Int) (k : Int) (n : Nat), vs = [.ref b, .ref pa, .int k] ∧ Box H b n ∧ n ≤ 900000 ∧ (H pa = some (.lst (ns.map V.int)) ∨ H pa = some (.tup (ns.map V.int))) ∧ 0 ≤ k ∧ k ≤ 10 ∧ ns.length ≤ 30 ∧
  ∀ p H' (ms : List Int), H p = none → ms.Perm (ns ++ List.replicate k.toNat 0) → Box H' b (n + 45) → SX b H H' → H' p = some (.tup (ms.map V.int)) → Q (.ref p) H'
theorem ok_places {f fT : Addr} {fd fdT : FuncData} {k : Nat} (F : Fun K "_law_places" "_law_places" sPlaces f fd)
    (FT : Fun K "_law_take" "_law_take" sTake fT fdT) (bT : Binds K fdT ["_law_box_here", "_law_many"] []) (gT : mg "_law_take" = some (.ref fT)) (ml : mg "len" = none) (mL : mg "list" = none) (mT : mg "tuple" = none) :
    FnOk P w K mg base CX0 (k + 2) f fd ["_law_box_here", "_law_amounts", "_law_nothing"] spPlaces := by
  have GT : FnOk P w K mg base CX0 (k + 1) fT fdT ["_law_box_here", "_law_many"] spTake := ok_take FT
  refine F.ok scPlaces (fun vs H Q E h => ?_) (fun cdv A outer s H vs Q E hr h => ?_)
  · obtain ⟨b, pa, ns, k, n, rfl, _⟩ := h
    rfl
  · obtain ⟨b, pa, ns, kk, n, rfl, hB, hn, epa, k0, k1, hl, q⟩ := h
    refine ⟨_, pss_cons (ps_par (i := 3) (j := 4) rfl scPlaces.nd rfl rfl (by decide) rfl rfl (pa_cons (pe_op op_cat (pe_callTy call_list_of (by rfl) mL (by decide +kernel) (pa_cons (pv 1) pa_nil)) (pe_op op_rep (pe_lst (pa_cons pe_int pa_nil)) (pv 2))) (pa_cons (pe_lst pa_nil) pa_nil)) (by rfl))
      (pss_cons (ps_while PassesOwn.never (pt_cmpR (op_neD hr.units) (pv 3) (pe_lst pa_nil) (nomark _))
        (pss_one (ps_expr (pe_bm PySem.F.plainAttrs_list PySem.F.slot_list_append PySem.F.type_list_append mt_append (pv 4) (pa_cons
          (pe_bm PySem.F.plainAttrs_list PySem.F.slot_list_pop PySem.F.type_list_pop mt_popAt (pv 3) (pa_cons (pe_call GT hr (by rfl) gT FT.kp bT .nil pass0 (pa_cons (pv 0) (pa_cons (pe_callB call_len_seq (by rfl) ml PySem.boot_len (pa_cons (pv 3) pa_nil)) pa_nil))) pa_nil)) pa_nil)))))
      (pss_one (ps_ret (pe_callTy call_tuple_of (by rfl) mT (by decide +kernel) (pa_cons (pv 4) pa_nil))))), ?_⟩
    obtain ⟨bo, bz⟩ := hB.get
    refine ⟨_, rfl, pa, ns.map V.int, rfl, epa.elim (fun e => .inl (SqL.of e)) (fun e => .inr (SqT.of e)), fun l1 n1 => ?_⟩
    have s1 : Same H (upd H l1 (.lst (ns.map V.int))) := same_upd n1
    have g1 : upd H l1 (.lst (ns.map V.int)) l1 = some (.lst (ns.map V.int)) := upd_same
    generalize upd H l1 (HO.lst (ns.map V.int)) = H1 at s1 g1 ⊢
    refine ⟨by show 1 ≤ sizeLine; decide, fun l2 n2 => ?_⟩
    have s2 : Same H1 (upd H1 l2 (.lst [.int 0])) := same_upd n2
    refine ⟨_, rfl, l2, kk, [.int 0], rfl, rfl, upd_same, by omega, by omega, by show 1 * kk.toNat ≤ sizeLine; rw [sizeLine_eq]; omega, fun l3 n3 => ?_⟩
    have er : (List.replicate kk.toNat [V.int 0]).flatten = (List.replicate kk.toNat (0 : Int)).map V.int := by
      induction kk.toNat with
      | zero => rfl
      | succ m ih => rw [List.replicate_succ, List.flatten_cons, ih, List.replicate_succ]; rfl
    rw [er]
    have s3 : Same (upd H1 l2 (.lst [.int 0])) (upd (upd H1 l2 (.lst [.int 0])) l3 (.lst ((List.replicate kk.toNat (0 : Int)).map V.int))) := same_upd n3
    have g3 : upd (upd H1 l2 (.lst [.int 0])) l3 (.lst ((List.replicate kk.toNat (0 : Int)).map V.int)) l3 = some (.lst ((List.replicate kk.toNat (0 : Int)).map V.int)) := upd_same
    have S3 := s1.trans (s2.trans s3)
    have g13 := s3 _ _ (s2 _ _ g1)
    generalize upd (upd H1 l2 (.lst [.int 0])) l3 (.lst ((List.replicate kk.toNat (0 : Int)).map V.int)) = H3 at s3 g3 S3 g13 ⊢
    refine ⟨l1, l3, _, _, rfl, rfl, g13, g3, by rw [List.length_map, List.length_map, List.length_replicate, sizeLine_eq]; omega, fun l nl => ?_⟩
    rw [← List.map_append]
    have s4 : Same H3 (upd H3 l (.lst ((ns ++ List.replicate kk.toNat 0).map V.int))) := same_upd nl
    have g4 : upd H3 l (.lst ((ns ++ List.replicate kk.toNat 0).map V.int)) l = some (.lst ((ns ++ List.replicate kk.toNat 0).map V.int)) := upd_same
    have fl : H l = none := S3.free nl
    generalize upd H3 l (.lst ((ns ++ List.replicate kk.toNat 0).map V.int)) = H4 at s4 g4 ⊢
    have S4 := S3.trans s4
    refine ⟨by show 0 ≤ sizeLine; decide, fun fo nfo => ⟨_, _, rfl, ?_⟩⟩
    have ffo : H fo = none := S4.free nfo
    have nlf : l ≠ fo := ne_of_none g4 nfo
    have nbl : b ≠ l := ne_of_none bz fl
    have nbf : b ≠ fo := ne_of_none bz ffo
    have hB5 : Box (upd H4 fo (.lst [])) b n := by
      have := s4.trans (same_upd nfo (o := .lst []))
      have e5 := (S3.trans this) _ _ bz
      exact hB.at (by rw [e5, bz])
    have tot : (ns ++ List.replicate kk.toNat 0).length ≤ 40 := by rw [List.length_append, List.length_replicate]; omega
    generalize hall : ns ++ List.replicate kk.toNat 0 = all at g4 tot q
    refine while_by (fun σ H' => ∃ ls ms : List Int, σ = [some (.ref b), some (.ref pa), some (.int kk), some (.ref l), some (.ref fo)] ∧ (ls ++ ms).Perm all ∧ SX b H H' ∧ Box H' b (n + ms.length) ∧ H' l = some (.lst (ls.map V.int)) ∧ H' fo = some (.lst (ms.map V.int)))
      (fun _ H' => match H' l with | some (.lst xs) => xs.length | _ => 0) ⟨all, [], rfl, by rw [List.append_nil], (SX.of_same S4).new nfo, hB5, by rw [upd_ne nlf]; exact g4, upd_same⟩ ?_ ?_
    · rintro σ H' ⟨ls, ms, rfl, pm, x', hB', el, ef⟩
      have hlen := pm.length_eq
      rw [List.length_append] at hlen
      refine ⟨.ref l, rfl, by show 0 ≤ sizeLine; decide, fun e ne => ?_⟩
      have se : Same H' (upd H' e (.lst [])) := same_upd ne
      have ge : upd H' e (.lst []) e = some (.lst []) := upd_same
      have xe : SX b H (upd H' e (.lst [])) := x'.new ne
      have hBe : Box (upd H' e (.lst [])) b (n + ms.length) := hB'.new ne
      generalize upd H' e (HO.lst []) = G at se ge xe hBe ⊢
      have elG := se _ _ el
      have efG := se _ _ ef
      refine ⟨.list (ls.map PyData.int), .list [], .lst (SqL.of elG) (dpInts ls), .lst (SqL.of ge) .nil, shaped_ints ls, rfl, _, rfl, ?_⟩
      cases ls with
      | nil =>
        refine iteF ?_
        refine ⟨.ref fo, rfl, fo, _, rfl, .inl ⟨SqL.of efG, fun p np => ?_⟩⟩
        refine q p _ ms (xe.free hBe np) pm ((hBe.new np).le ?_) (xe.new np) upd_same
        have : ms.length ≤ 40 := by
          rw [List.length_nil] at hlen
          omega
        omega
      | cons i0 lr =>
        refine iteT ?_
        refine ⟨.ref fo, rfl, .inl ⟨rfl, _, SqL.of efG⟩, .ref l, rfl, .inl ⟨rfl, _, SqL.of elG⟩, .ref b, rfl, .ref l, rfl, l, _, rfl, .inl (SqL.of elG), ?_⟩
        rw [List.length_map]
        refine ⟨b, (((i0 :: lr).length : Nat) : Int), n + ms.length, rfl, hBe, by omega, by rw [List.length_cons]; omega, by omega, fun r H2 r0 r1 hB2 k2 => ?_⟩
        obtain ⟨j, rfl⟩ : ∃ j : Nat, r = (j : Int) := ⟨r.toNat, by omega⟩
        have hj : j < (i0 :: lr).length := by omega
        have el2 : H2 l = some (.lst ((i0 :: lr).map V.int)) := by rw [k2 l nbl.symm]; exact elG
        have ef2 : H2 fo = some (.lst (ms.map V.int)) := by rw [k2 fo nbf.symm]; exact efG
        have x2 : SX b H H2 := xe.trans (.of_eq k2)
        have hix : seqIndex? (j : Int) ((i0 :: lr).map V.int).length = some j := by
          unfold seqIndex?
          rw [List.length_map, if_neg (show ¬ (j : Int) < 0 by omega)]
          show (if (decide (0 ≤ (j : Int)) && decide ((j : Int) < ((i0 :: lr).length : Nat))) = true then some (j : Int).toNat else none) = some j
          rw [decide_eq_true (show 0 ≤ (j : Int) by omega), decide_eq_true (show (j : Int) < ((i0 :: lr).length : Nat) by omega)]
          rfl
        refine ⟨l, _, (j : Int), j, .int (i0 :: lr)[j], rfl, rfl, el2, by omega, by omega, hix, by rw [List.getElem?_map, List.getElem?_eq_getElem hj]; rfl, ?_⟩
        refine ⟨fo, _, _, rfl, rfl, by rw [upd_ne nlf.symm]; exact ef2, by rw [List.length_map]; exact small1000 (by omega), ?_⟩
        refine ⟨⟨(i0 :: lr).eraseIdx j, ms ++ [(i0 :: lr)[j]], rfl, ?_, (x2.set fl).set ffo, ?_, ?_, ?_⟩, ?_⟩
        · refine List.Perm.trans ?_ pm
          have h1 : ((i0 :: lr)[j] :: (i0 :: lr).eraseIdx j).Perm (i0 :: lr) := erase_perm _ j hj
          have h2 : ((i0 :: lr).eraseIdx j ++ (ms ++ [(i0 :: lr)[j]])).Perm ((i0 :: lr)[j] :: ((i0 :: lr).eraseIdx j ++ ms)) := by
            rw [← List.append_assoc]
            exact List.perm_append_comm
          refine h2.trans ?_
          rw [← List.cons_append]
          exact h1.append_right ms
        · rw [List.length_append]
          exact ((hB2.set nbl).set nbf)
        · rw [upd_ne nlf, upd_same, map_erase]
        · rw [upd_same, List.map_append]; rfl
        · show (match upd (upd H2 l _) fo _ l with | some (.lst xs) => xs.length | _ => 0) < (match H' l with | some (.lst xs) => xs.length | _ => 0)
          rw [upd_ne nlf, upd_same, el]
          show (((i0 :: lr).map V.int).eraseIdx j).length < ((i0 :: lr).map V.int).length
          rw [List.length_eraseIdx_of_lt (by rw [List.length_map]; exact hj), List.length_map, List.length_cons]
          omega
    · rintro σ H' Q1 Q2 hq ⟨x, e1, hz, h⟩
      refine ⟨x, e1, hz, fun p np => ?_⟩
      obtain ⟨d, e, a1, a2, a3, a4, z, a5, a6⟩ := h p np
      exact ⟨d, e, a1, a2, a3, a4, z, a5, hq _ _ a6⟩
end
end K18

namespace K18
open PySem PySem.Spec PyProof.Rows L2 MG
abbrev sHolders : Stmt := topS 12
abbrev sHfn : Stmt := topS 18
abbrev sAsked : Stmt := topS 19
abbrev sBroken : Stmt := topS 21
abbrev nBroken : List Str := ["row", "other", "clauses", "clause", "is_broken"]
theorem scHolders : FnScope ["row", "place", "amount"] ["row"] (defScope sHolders) := ⟨rfl, rfl, rfl, by decide +kernel, rfl, by decide +kernel, by decide +kernel⟩
theorem scHfn : FnScope ["row", "other", "before", "behind"] ["row", "other"] (defScope sHfn) := ⟨rfl, rfl, rfl, by decide +kernel, rfl, by decide +kernel, by decide +kernel⟩
theorem scAsked : FnScope ["row", "other", "as_many_twos"] ["row", "other"] (defScope sAsked) := ⟨rfl, rfl, rfl, by decide +kernel, rfl, by decide +kernel, by decide +kernel⟩
theorem scBroken : FnScope ["row", "other", "clauses", "clause", "is_broken"] ["row", "other"] (defScope sBroken) := ⟨rfl, rfl, rfl, by decide +kernel, rfl, by decide +kernel, by decide +kernel⟩
section
variable {P : Program} {w : World} {K : PySem.W.Frag} {mg : Str → Option Value} {base : Heap}
def spHolders : Sp := fun vs H Q _ => ∃ a ns, vs = [.ref a] ∧ H a = some (.tup (ns.map V.int)) ∧ ns.length ≤ 40 ∧
  ∀ H' p, Same H H' → H' p = some (.tup ((hold ns ns.length).map V.int)) → Q (.ref p) H'
theorem ok_holders {f : Addr} {fd : FuncData} {k : Nat} (F : Fun K "holders" "holders" sHolders f fd) (mT : mg "tuple" = none) (mE : mg "enumerate" = none) :
    FnOk P w K mg base CX0 (k + 1) f fd ["row"] spHolders := by
  refine F.ok scHolders (fun vs H Q E h => ?_) (fun cdv A outer s H vs Q E hr h => ?_)
  · obtain ⟨a, ns, rfl, _⟩ := h
    rfl
  · obtain ⟨a, ns, rfl, e, hl, q⟩ := h
    refine ⟨_, pss_one (ps_ret (pe_callTy call_tuple_of (by rfl) mT (by decide +kernel) (pa_cons
      (pe_lc (own := [("place", 1), ("amount", 2)]) (g := gTup K 2 (gCons (gName 1) (gCons (gName 2) gNil))) rfl scHolders.nd (pi_enumT (by rfl) mE (pa_cons (pv 0) pa_nil))
        (blkOk_by (N := ["row", "place", "amount"]) (sc := defScope sHolders) (by decide +kernel))
        (fun _ _ _ _ _ => pg_tup rfl (pgs_cons (pg_name (i := 1) scHolders.nd rfl (.inl rfl) (.inr rfl)) (pgs_cons (pg_name (i := 2) scHolders.nd rfl (.inl rfl) (.inr rfl)) pgs_nil)))
        (fun _ _ _ _ _ => pts_one (pt_cmpR op_gt (pv 2) pe_int (nomark _)))
        (fun _ _ _ _ _ => pv 1)) pa_nil))), ?_⟩
    have hS : SqT K H a (ns.map V.int) := SqT.of e
    refine ⟨.ref a, rfl, a, ns.map V.int, rfl, hS, fun D nD => ?_⟩
    refine lc_it (walk_enumT (K := K) (a := a) (xs := ns.map V.int)) (fun i H' => Same H H' ∧ H' D = some (.lst ((hold ns i).map V.int))) ⟨same_upd nD, upd_same⟩ ?_ ?_ ?_
    · intro i H' _ h
      exact SqT.of (h.1 _ _ e)
    · rintro i x H' H'' hi ⟨sm, hD⟩ ⟨T, x1, x2, rfl, nT, rfl, e1, e2⟩
      rw [List.length_map] at hi
      have e1' : x1 = .int (i : Nat) := (Option.some.inj e1).symm
      have e2' : x2 = .int ns[i] := by
        have z : (ns.map V.int)[i]? = some x2 := e2
        rw [List.getElem?_map, List.getElem?_eq_getElem hi] at z
        exact (Option.some.inj z).symm
      subst e1' e2'
      have smT : Same H' (upd H' T (.tup [.int (i : Nat), .int ns[i]])) := same_upd nT
      have hg : ns.getD i 0 = ns[i] := by rw [List.getD_eq_getElem?_getD, List.getElem?_eq_getElem hi]; rfl
      refine ⟨T, [.int (i : Nat), .int ns[i]], rfl, .inl (.inl upd_same), rfl, .int (i : Nat), [.int ns[i]], rfl, .int ns[i], [], rfl, rfl, rfl, _, rfl, ns[i], 0, rfl, rfl, _, rfl, ?_⟩
      refine ite2 (fun hp => ?_) (fun hp => ?_)
      · have hp' : 0 < ns[i] := of_decide_eq_true hp
        refine ⟨.int (i : Nat), rfl, _, smT _ _ hD, ?_, ?_, ?_⟩
        · rw [List.length_map]
          exact small1000 (Nat.le_trans (hold_len ns i) (by omega))
        · intro c o hc
          rw [upd_ne (ne_of_none hc nD)]
          exact smT _ _ (sm c o hc)
        · rw [upd_same, hold_succ, hg, if_pos hp', List.map_append]
          rfl
      · have hp' : ¬ 0 < ns[i] := fun z => hp (decide_eq_true z)
        refine ⟨sm.trans smT, ?_⟩
        rw [hold_succ, hg, if_neg hp', List.append_nil]
        exact smT _ _ hD
    · rintro H' ⟨sm, hD⟩
      rw [List.length_map] at hD
      refine ⟨D, _, rfl, .inl ⟨.inl (.inl hD), fun p np => ?_⟩⟩
      exact q _ p (sm.trans (same_upd np)) upd_same

def hfnL (r o : List Int) : List Bool := (r.zip o).map fun p => decide (p.1 = 0) && decide (p.2 > 0)
def spHfn : Sp := fun vs H Q _ => ∃ a b r o, vs = [.ref a, .ref b] ∧ H a = some (.tup (List.map V.int r)) ∧ H b = some (.tup (List.map V.int o)) ∧ r.length = o.length ∧ r.length ≤ 40 ∧ ∀ H', Same H H' → Q (.bl (hfn r o)) H'
theorem ok_hfn {f : Addr} {fd : FuncData} {k : Nat} (F : Fun K "has_from_nothing" "has_from_nothing" sHfn f fd) (mA : mg "any" = none) (mZ : mg "zip" = none) :
    FnOk P w K mg base CX0 (k + 1) f fd ["row", "other"] spHfn := by
  refine F.ok scHfn (fun vs H Q E h => ?_) (fun cdv A outer s H vs Q E hr h => ?_)
  · obtain ⟨a, b, r, o, rfl, _⟩ := h
    rfl
  · obtain ⟨a, b, r, o, rfl, ea, eb, hl, hn, q⟩ := h
    refine ⟨_, pss_one (ps_ret (pe_callB (cr_any rfl) (by rfl) mA (by decide +kernel) (pa_cons
      (pe_lc (own := [("before", 2), ("behind", 3)]) (g := gTup K 2 (gCons (gName 2) (gCons (gName 3) gNil))) (tt := tYes) rfl scHfn.nd (RZ.pi_zipA (by rfl) mZ (pa_cons (pv 0) (pa_cons (pv 1) pa_nil)))
        (blkOk_by (N := ["row", "other", "before", "behind"]) (sc := defScope sHfn) (by decide +kernel))
        (fun _ _ _ _ _ => pg_tup rfl (pgs_cons (pg_name (i := 2) scHfn.nd rfl (.inl rfl) (.inr rfl)) (pgs_cons (pg_name (i := 3) scHfn.nd rfl (.inl rfl) (.inr rfl)) pgs_nil)))
        (fun _ _ _ _ _ => pts_nil)
        (fun _ _ _ _ _ => pe_and (pe_cmpR op_eq (pv 2) pe_int (nomark _)) (pe_one (pe_cmpR op_gt (pv 3) pe_int (nomark _))))) pa_nil))), ?_⟩
    refine ⟨_, rfl, _, rfl, a, b, _, _, rfl, .inr ⟨SqT.of ea, SqT.of eb, fun D nD => ?_⟩⟩
    refine lc_it (walk_zipT (K := K) (a := a) (b := b) (xs := r.map V.int) (ys := o.map V.int) (n := r.length) (by rw [List.length_map, List.length_map]; omega)) (fun i H' => Same H H' ∧ H' D = some (.lst (((hfnL r o).take i).map V.bl))) ⟨same_upd nD, upd_same⟩ ?_ ?_ ?_
    · intro i H' _ h
      exact ⟨SqT.of (h.1 _ _ ea), SqT.of (h.1 _ _ eb)⟩
    · rintro i x H' H'' hi ⟨sm, hD⟩ ⟨T, x1, x2, rfl, nT, rfl, e1, e2⟩
      have hi2 : i < o.length := by omega
      have e1' : x1 = .int r[i] := by
        have z : (r.map V.int)[i]? = some x1 := e1
        rw [List.getElem?_map, List.getElem?_eq_getElem hi] at z
        exact (Option.some.inj z).symm
      have e2' : x2 = .int o[i] := by
        have z : (o.map V.int)[i]? = some x2 := e2
        rw [List.getElem?_map, List.getElem?_eq_getElem hi2] at z
        exact (Option.some.inj z).symm
      subst e1' e2'
      have smT : Same H' (upd H' T (.tup [.int r[i], .int o[i]])) := same_upd nT
      have hz : (hfnL r o)[i]? = some (decide (r[i] = 0) && decide (o[i] > 0)) := by
        unfold hfnL
        rw [List.getElem?_map, (List.getElem?_zip_eq_some (z := (r[i], o[i]))).mpr ⟨List.getElem?_eq_getElem hi, List.getElem?_eq_getElem hi2⟩]
        rfl
      have fin : ∀ y, y = (decide (r[i] = 0) && decide (o[i] > 0)) → ∃ acc, upd H' T (.tup [.int r[i], .int o[i]]) D = some (.lst acc) ∧ acc.length < sizeLine ∧ Same H (upd (upd H' T (.tup [.int r[i], .int o[i]])) D (.lst (acc ++ [V.bl y]))) ∧ upd (upd H' T (.tup [.int r[i], .int o[i]])) D (.lst (acc ++ [V.bl y])) D = some (.lst (((hfnL r o).take (i + 1)).map V.bl)) := fun y hy => by
        refine ⟨_, smT _ _ hD, ?_, ?_, ?_⟩
        · rw [List.length_map, List.length_take]
          exact small1000 (by omega)
        · intro c o hc
          rw [upd_ne (ne_of_none hc nD)]
          exact smT _ _ (sm c o hc)
        · rw [upd_same, List.take_add_one, hz, List.map_append, hy]
          rfl
      refine ⟨T, [.int r[i], .int o[i]], rfl, .inl (.inl upd_same), rfl, .int r[i], [.int o[i]], rfl, .int o[i], [], rfl, rfl, rfl, ?_⟩
      refine ⟨_, rfl, rfl, _, rfl, ?_⟩
      have ez : decide (V.int r[i] = V.int 0) = decide (r[i] = 0) := by
        by_cases z : r[i] = 0
        · rw [z]; rfl
        · rw [decide_eq_false z, decide_eq_false (fun y => z (V.int.inj y))]
      rw [ez]
      refine ite2 (fun hp => ?_) (fun hp => ?_)
      · refine ⟨_, rfl, _, 0, rfl, rfl, ?_⟩
        exact fin _ (by rw [hp]; rfl)
      · have hp' : decide (r[i] = 0) = false := by cases h : decide (r[i] = 0) <;> first | rfl | exact absurd h hp
        exact fin _ (by rw [hp']; rfl)
    · rintro H' ⟨sm, hD⟩
      have hlen : (hfnL r o).length = r.length := by
        unfold hfnL
        rw [List.length_map, List.length_zip]; omega
      rw [← hlen, List.take_length] at hD
      refine ⟨D, hfnL r o, rfl, SqL.of hD, ?_⟩
      have e : (hfnL r o).any id = hfn r o := by
        unfold hfnL hfn
        rw [List.any_map]
        rfl
      rw [e]
      exact q H' sm
end
end K18

namespace K18
open PySem PySem.Spec PyProof.Rows L2 MG
theorem decV (x y : Int) : decide (V.int x = V.int y) = decide (x = y) := by
  by_cases h : x = y
  · rw [h]; simp
  · rw [decide_eq_false h, decide_eq_false (fun z => h (V.int.inj z))]
theorem decN (a b : Nat) : decide ((a : Int) = (b : Int)) = decide (a = b) := by
  by_cases h : a = b
  · rw [h]; simp
  · rw [decide_eq_false h, decide_eq_false (fun z => h (by omega))]
theorem decL (a b : Nat) : decide ((a : Int) < (b : Int)) = decide (a < b) := by
  by_cases h : a < b
  · rw [decide_eq_true h, decide_eq_true (show (a : Int) < b by omega)]
  · rw [decide_eq_false h, decide_eq_false (show ¬ (a : Int) < b by omega)]
theorem notD (p : Prop) [Decidable p] : (!decide p) = decide (¬ p) := by
  by_cases h : p
  · rw [decide_eq_true h, decide_eq_false (fun z => z h)]; rfl
  · rw [decide_eq_false h, decide_eq_true h]; rfl
section
variable {P : Program} {w : World} {K : PySem.W.Frag} {mg : Str → Option Value} {base : Heap}
def spAsked : Sp := fun vs H Q _ => ∃ a b r o, vs = [.ref a, .ref b] ∧ Row H a r ∧ Row H b o ∧ r.length = o.length ∧ ∀ H' p ts, Same H H' → H' p = some (.tup (ts.map V.ref)) → PairsAt H' ts (asked r o) → Q (.ref p) H'
theorem ok_asked {f fT fN fM fO fH : Addr} {fd fdT fdN fdM fdO fdH : FuncData} {k : Nat} (F : Fun K "asked_of_any" "asked_of_any" sAsked f fd)
    (FT : Fun K "twos" "twos" sTwos fT fdT) (bT : Binds K fdT ["row"] []) (gT : mg "twos" = some (.ref fT)) (GT : FnOk P w K mg base CX0 (k + 3) fT fdT ["row"] spTwos)
    (FN : Fun K "has_from_nothing" "has_from_nothing" sHfn fN fdN) (bN : Binds K fdN ["row", "other"] []) (gN : mg "has_from_nothing" = some (.ref fN)) (GN : FnOk P w K mg base CX0 (k + 1) fN fdN ["row", "other"] spHfn)
    (FM : Fun K "measure" "measure" sMeasure fM fdM) (bM : Binds K fdM ["row"] []) (gM : mg "measure" = some (.ref fM)) (GM : FnOk P w K mg base CX0 (k + 3) fM fdM ["row"] spMeasure)
    (FO : Fun K "odd_ones" "odd_ones" sOddOnes fO fdO) (bO : Binds K fdO ["row"] []) (gO : mg "odd_ones" = some (.ref fO)) (GO : FnOk P w K mg base CX0 (k + 4) fO fdO ["row"] spOddOnes)
    (FH : Fun K "holders" "holders" sHolders fH fdH) (bH : Binds K fdH ["row"] []) (gH : mg "holders" = some (.ref fH)) (GH : FnOk P w K mg base CX0 (k + 1) fH fdH ["row"] spHolders)
    (mS : mg "sum" = none) (ml : mg "len" = none) : FnOk P w K mg base CX0 (k + 5) f fd ["row", "other"] spAsked := by
  refine F.ok scAsked (fun vs H Q E h => ?_) (fun cdv A outer s H vs Q E hr h => ?_)
  · obtain ⟨a, b, r, o, rfl, _⟩ := h
    rfl
  · obtain ⟨a, b, r, o, rfl, ra, rb, hl, q⟩ := h
    have hr1 := hr.mono (show k + 1 ≤ k + 4 by omega)
    have hr3 := hr.mono (show k + 3 ≤ k + 4 by omega)
    refine ⟨_, pss_cons (ps_set (i := 2) scAsked.nd rfl (.inl rfl) (pe_cmpR op_eq (pe_call GT hr3 (by rfl) gT FT.kp bT .nil pass0 (pa_cons (pv 1) pa_nil)) (pe_call GT hr3 (by rfl) gT FT.kp bT .nil pass0 (pa_cons (pv 0) pa_nil)) (nomark _)))
      (pss_one (ps_ret (pe_tup (pa_cons
        (pe_tup (pa_cons pe_str (pa_cons (pe_cmpR op_ne (pe_callB (sumT rfl) (by rfl) mS (by decide +kernel) (pa_cons (pv 1) pa_nil)) (pe_callB (sumT rfl) (by rfl) mS (by decide +kernel) (pa_cons (pv 0) pa_nil)) (nomark _)) pa_nil))) (pa_cons
        (pe_tup (pa_cons pe_str (pa_cons (pe_call GN hr1 (by rfl) gN FN.kp bN .nil pass0 (pa_cons (pv 0) (pa_cons (pv 1) pa_nil))) pa_nil))) (pa_cons
        (pe_tup (pa_cons pe_str (pa_cons (pe_cmpR op_ne (pe_call GM hr3 (by rfl) gM FM.kp bM .nil pass0 (pa_cons (pv 1) pa_nil)) (pe_call GM hr3 (by rfl) gM FM.kp bM .nil pass0 (pa_cons (pv 0) pa_nil)) (nomark _)) pa_nil))) (pa_cons
        (pe_tup (pa_cons pe_str (pa_cons (pe_cmpR op_lt (pe_call GT hr3 (by rfl) gT FT.kp bT .nil pass0 (pa_cons (pv 1) pa_nil)) (pe_call GT hr3 (by rfl) gT FT.kp bT .nil pass0 (pa_cons (pv 0) pa_nil)) (nomark _)) pa_nil))) (pa_cons
        (pe_tup (pa_cons pe_str (pa_cons (pe_and (pv 2) (pe_one (pe_cmpR op_gt (pe_call GO hr (by rfl) gO FO.kp bO .nil pass0 (pa_cons (pv 1) pa_nil)) (pe_call GO hr (by rfl) gO FO.kp bO .nil pass0 (pa_cons (pv 0) pa_nil)) (nomark _)))) pa_nil))) (pa_cons
        (pe_tup (pa_cons pe_str (pa_cons (pe_and (pv 2) (pe_one (pe_cmpR op_eq (pe_call GO hr (by rfl) gO FO.kp bO .nil pass0 (pa_cons (pv 1) pa_nil))
          (pe_callB call_len_seq (by rfl) ml PySem.boot_len (pa_cons (pe_call GH hr1 (by rfl) gH FH.kp bH .nil pass0 (pa_cons (pv 1) pa_nil)) pa_nil)) (nomark _)))) pa_nil))) pa_nil))))))))), ?_⟩
    refine ⟨_, rfl, b, o, rfl, rb, _, rfl, a, r, rfl, ra, rfl, ?_⟩
    rw [decV, decN]
    refine ⟨_, rfl, b, o, rfl, SqT.of rb.1, _, rfl, a, r, rfl, SqT.of ra.1, rfl, by show 2 ≤ sizeLine; decide, fun t1 n1 => ?_⟩
    rw [decV, notD]
    have s1 : Same H (upd H t1 (.tup [.str "sum", .bl (decide (¬ o.sum = r.sum))])) := same_upd n1
    have e1 : upd H t1 (.tup [.str "sum", .bl (decide (¬ o.sum = r.sum))]) t1 = some (.tup [.str "sum", .bl (decide (¬ o.sum = r.sum))]) := upd_same
    generalize upd H t1 (HO.tup [.str "sum", .bl (decide (¬ o.sum = r.sum))]) = H1 at s1 e1 ⊢
    have ra1 := ra.same s1
    have rb1 := rb.same s1
    refine ⟨_, rfl, _, rfl, a, b, r, o, rfl, ra1.1, rb1.1, hl, ra.2.2.1, fun G2 sG2 => ⟨by show 2 ≤ sizeLine; decide, fun t2 n2 => ?_⟩⟩
    have s2 : Same H1 (upd G2 t2 (.tup [.str "nothing", .bl (hfn r o)])) := sG2.trans (same_upd n2)
    have e2 : upd G2 t2 (.tup [.str "nothing", .bl (hfn r o)]) t2 = some (.tup [.str "nothing", .bl (hfn r o)]) := upd_same
    generalize upd G2 t2 (HO.tup [.str "nothing", .bl (hfn r o)]) = H2 at s2 e2 ⊢
    have ra2 := ra1.same s2
    have rb2 := rb1.same s2
    refine ⟨_, rfl, b, o, rfl, rb2, _, rfl, a, r, rfl, ra2, rfl, by show 2 ≤ sizeLine; decide, fun t3 n3 => ?_⟩
    rw [decV, notD]
    have s3 : Same H2 (upd H2 t3 (.tup [.str "measure", .bl (decide (¬ ms o = ms r))])) := same_upd n3
    have e3 : upd H2 t3 (.tup [.str "measure", .bl (decide (¬ ms o = ms r))]) t3 = some (.tup [.str "measure", .bl (decide (¬ ms o = ms r))]) := upd_same
    show tCons _ _ _ (upd H2 t3 (.tup [.str "measure", .bl (decide (¬ ms o = ms r))])) _
    generalize upd H2 t3 (HO.tup [.str "measure", .bl (decide (¬ ms o = ms r))]) = H3 at s3 e3 ⊢
    have ra3 := ra2.same s3
    have rb3 := rb2.same s3
    refine ⟨_, rfl, b, o, rfl, rb3, _, rfl, a, r, rfl, ra3, _, _, rfl, rfl, by show 2 ≤ sizeLine; decide, fun t4 n4 => ?_⟩
    dsimp only
    rw [decL]
    have s4 : Same H3 (upd H3 t4 (.tup [.str "twos", .bl (decide (v2 (gl o) < v2 (gl r)))])) := same_upd n4
    have e4 : upd H3 t4 (.tup [.str "twos", .bl (decide (v2 (gl o) < v2 (gl r)))]) t4 = some (.tup [.str "twos", .bl (decide (v2 (gl o) < v2 (gl r)))]) := upd_same
    generalize upd H3 t4 (HO.tup [.str "twos", .bl (decide (v2 (gl o) < v2 (gl r)))]) = H4 at s4 e4 ⊢
    have ra4 := ra3.same s4
    have rb4 := rb3.same s4
    have S4 := s1.trans (s2.trans (s3.trans s4))
    have fin : ∀ (G : Hp) (t5 t6 p : Addr), Same H4 G → G t5 = some (.tup [.str "odd ones", .bl (decide (v2 (gl o) = v2 (gl r)) && decide (od r < od o))]) →
        G t6 = some (.tup [.str "doubled", .bl (decide (v2 (gl o) = v2 (gl r)) && decide (od o = (hold o o.length).length))]) → G p = some (.tup ([t1, t2, t3, t4, t5, t6].map V.ref)) → Q (.ref p) G := by
      intro G t5 t6 p sG h5 h6 hp
      refine q G p [t1, t2, t3, t4, t5, t6] (S4.trans sG) hp ?_
      exact .cons (sG _ _ (s4 _ _ (s3 _ _ (s2 _ _ e1)))) (.cons (sG _ _ (s4 _ _ (s3 _ _ e2))) (.cons (sG _ _ (s4 _ _ e3)) (.cons (sG _ _ e4) (.cons h5 (.cons h6 .nil)))))
    cases hA : decide (v2 (gl o) = v2 (gl r)) with
    | false =>
      rw [hA] at fin
      refine ⟨_, rfl, _, rfl, iteF ⟨by show 2 ≤ sizeLine; decide, fun t5 n5 => ?_⟩⟩
      refine ⟨_, rfl, _, rfl, iteF ⟨by show 2 ≤ sizeLine; decide, fun t6 n6 => ?_⟩⟩
      refine ⟨by show 6 ≤ sizeLine; decide, fun p np => ?_⟩
      exact fin _ t5 t6 p ((same_upd n5).trans ((same_upd n6).trans (same_upd np))) (same_upd np _ _ (same_upd n6 _ _ upd_same)) (same_upd np _ _ upd_same) upd_same
    | true =>
      rw [hA] at fin
      refine ⟨_, rfl, _, rfl, iteT ⟨_, rfl, b, o, rfl, rb4, fun G5 z5 => ⟨_, rfl, a, r, rfl, ra4.same z5, fun G6 z6 => ?_⟩⟩⟩
      refine ⟨_, _, rfl, rfl, by show 2 ≤ sizeLine; decide, fun t5 n5 => ?_⟩
      have e5' : decide (((fewT (v2 (gl r)) r).length : Int) < ((fewT (v2 (gl o)) o).length : Int)) = decide (od r < od o) := decL _ _
      dsimp only
      rw [e5']
      have s5 : Same H4 (upd G6 t5 (.tup [.str "odd ones", .bl (decide (od r < od o))])) := z5.trans (z6.trans (same_upd n5))
      have e5 : upd G6 t5 (.tup [.str "odd ones", .bl (decide (od r < od o))]) t5 = some (.tup [.str "odd ones", .bl (decide (od r < od o))]) := upd_same
      generalize upd G6 t5 (HO.tup [.str "odd ones", .bl (decide (od r < od o))]) = H5 at s5 e5 ⊢
      have rb5 := rb4.same s5
      refine ⟨_, rfl, _, rfl, iteT ⟨_, rfl, b, o, rfl, rb5, fun G7 z7 => ⟨_, rfl, b, o, rfl, (rb5.same z7).1, rb5.2.2.1, fun G8 ph z8 e8 => ?_⟩⟩⟩
      refine ⟨ph, _, rfl, .inr (SqT.of e8), rfl, by show 2 ≤ sizeLine; decide, fun t6 n6 => ?_⟩
      rw [decV, List.length_map, decN]
      refine ⟨by show 6 ≤ sizeLine; decide, fun p np => ?_⟩
      refine fin _ t5 t6 p (s5.trans (z7.trans (z8.trans ((same_upd n6).trans (same_upd np))))) (same_upd np _ _ (same_upd n6 _ _ (z8 _ _ (z7 _ _ e5)))) (same_upd np _ _ upd_same) upd_same
def spBroken : Sp := fun vs H Q _ => ∃ a b r o, vs = [.ref a, .ref b] ∧ Row H a r ∧ Row H b o ∧ 3 ≤ (hold r r.length).length ∧ ∀ H' p, Same H H' → H' p = some (.tup ((brkT r o).map V.str)) → Q (.ref p) H'
theorem ok_broken {f fA fH : Addr} {fd fdA fdH : FuncData} {k : Nat} (F : Fun K "broken" "broken" sBroken f fd)
    (FA : Fun K "asked_of_any" "asked_of_any" sAsked fA fdA) (bA : Binds K fdA ["row", "other"] []) (gA : mg "asked_of_any" = some (.ref fA)) (GA : FnOk P w K mg base CX0 (k + 5) fA fdA ["row", "other"] spAsked)
    (FH : Fun K "holders" "holders" sHolders fH fdH) (bH : Binds K fdH ["row"] []) (gH : mg "holders" = some (.ref fH)) (GH : FnOk P w K mg base CX0 (k + 1) fH fdH ["row"] spHolders)
    (ml : mg "len" = none) (mT : mg "tuple" = none) : FnOk P w K mg base CX0 (k + 6) f fd ["row", "other"] spBroken := by
  refine F.ok scBroken (fun vs H Q E h => ?_) (fun cdv A outer s H vs Q E hr h => ?_)
  · obtain ⟨a, b, r, o, rfl, _⟩ := h
    rfl
  · obtain ⟨a, b, r, o, rfl, ra, rb, h3, q⟩ := h
    have hr1 := hr.mono (show k + 1 ≤ k + 5 by omega)
    refine ⟨_, pss_cons (ps_if (pt_cmpR (op_eqD hr.units) (pv 0) (pv 1) (nomark _)) (pss_one (ps_ret (pe_tup pa_nil))) pss_nil)
      (pss_cons (ps_if (pt_cmpR op_ne (pe_callB call_len_seq (by rfl) ml PySem.boot_len (pa_cons (pv 0) pa_nil)) (pe_callB call_len_seq (by rfl) ml PySem.boot_len (pa_cons (pv 1) pa_nil)) (nomark _)) (pss_one (ps_ret (pe_tup (pa_cons pe_str pa_nil)))) pss_nil)
      (pss_cons (ps_set (i := 2) scBroken.nd rfl (.inl rfl) (pe_callTy call_tuple_of (by rfl) mT (by decide +kernel) (pa_cons
        (pe_lc (own := [("clause", 3), ("is_broken", 4)]) (g := gTup K 2 (gCons (gName 3) (gCons (gName 4) gNil))) rfl scBroken.nd (pi_tup (pe_call GA hr (by rfl) gA FA.kp bA .nil pass0 (pa_cons (pv 0) (pa_cons (pv 1) pa_nil))))
          (blkOk_by (N := nBroken) (sc := defScope sBroken) (by decide +kernel))
          (fun _ _ _ _ _ => pg_tup rfl (pgs_cons (pg_name (i := 3) scBroken.nd rfl (.inl rfl) (.inr rfl)) (pgs_cons (pg_name (i := 4) scBroken.nd rfl (.inl rfl) (.inr rfl)) pgs_nil)))
          (fun _ _ _ _ _ => pts_one (pt_val (pv 4)))
          (fun _ _ _ _ _ => pv 3)) pa_nil)))
      (pss_cons (ps_if (PW.pt (pw_or (pt_truth (pv 2) (by intro _; rfl)) (pw_or1 (pt_cmpR op_gt (pe_callB call_len_seq (by rfl) ml PySem.boot_len (pa_cons (pe_call GH hr1 (by rfl) gH FH.kp bH .nil pass0 (pa_cons (pv 0) pa_nil)) pa_nil)) pe_int (nomark _))))) (pss_one (ps_ret (pv 2))) pss_nil)
      pss_never))), ?_⟩
    refine ⟨_, rfl, _, rfl, _, _, .tup (SqT.of ra.1) (dpIntsG r), .tup (SqT.of rb.1) (dpIntsG o), shapedT_ints r, shapedT_ints o, _, rfl, ?_⟩
    rw [eqv_rows]
    unfold brkT at q
    refine ite2 (fun he => ?_) (fun he => ?_)
    · have he' := of_decide_eq_true he
      rw [if_pos he'] at q
      exact ⟨by show 0 ≤ sizeLine; decide, fun p np => q _ p (same_upd np) upd_same⟩
    have he' : ¬ r = o := fun z => he (decide_eq_true z)
    rw [if_neg he'] at q
    refine ⟨_, rfl, a, _, rfl, .inr (SqT.of ra.1), _, rfl, b, _, rfl, .inr (SqT.of rb.1), rfl, _, rfl, ?_⟩
    rw [List.length_map, List.length_map, decV, decN, notD]
    refine ite2 (fun hn => ?_) (fun hn => ?_)
    · have hn' := of_decide_eq_true hn
      rw [if_pos hn'] at q
      exact ⟨by show 1 ≤ sizeLine; decide, fun p np => q _ p (same_upd np) upd_same⟩
    have hl : r.length = o.length := Decidable.of_not_not fun z => hn (decide_eq_true z)
    rw [if_neg (fun z => z hl)] at q
    refine ⟨_, rfl, _, rfl, a, b, r, o, rfl, ra, rb, hl, fun H1 p1 ts s1 e1 pr => ?_⟩
    refine ⟨p1, rfl, ⟨_, SqT.of e1⟩, fun D nD => ?_⟩
    have prl := pr.1
    refine lc_tup (K := K) (a := p1) (xs := ts.map V.ref) (fun i H' => Same H1 H' ∧ H' D = some (.lst (((((asked r o).take i).filter fun p => p.2).map fun p => p.1).map V.str))) ⟨same_upd nD, upd_same⟩ ?_ ?_ ?_
    · rintro i H' _ ⟨sm, _⟩
      exact SqT.of (sm _ _ e1)
    · rintro i x H' hx ⟨sm, hD⟩
      rw [List.getElem?_map] at hx
      obtain ⟨t, ht, rfl⟩ := Option.map_eq_some_iff.mp hx
      have hi : i < ts.length := (List.getElem?_eq_some_iff.mp ht).1
      have hc : (asked r o)[i]? = some (asked r o)[i] := List.getElem?_eq_getElem (by omega)
      generalize (asked r o)[i] = c at hc
      have et := sm _ _ (pr.2 i t c ht hc)
      refine ⟨t, _, rfl, SqT.of et, rfl, .str c.1, [.bl c.2], rfl, .bl c.2, [], rfl, rfl, rfl, _, rfl, c.2, rfl, ?_⟩
      have e1 : (asked r o).take (i + 1) = (asked r o).take i ++ [c] := by rw [List.take_add_one, hc]; rfl
      cases hb : c.2 with
      | true =>
        refine iteT ⟨_, rfl, _, hD, ?_, ?_, ?_⟩
        · rw [List.length_map, List.length_map]
          refine small1000 (Nat.le_trans (List.length_filter_le _ _) ?_)
          rw [List.length_take]
          have : (asked r o).length = 6 := rfl
          omega
        · intro c o hc
          rw [upd_ne (ne_of_none hc nD)]
          exact sm c o hc
        · rw [upd_same, e1, List.filter_append, List.map_append, List.map_append, List.filter_cons_of_pos (by simpa using hb)]
          rfl
      | false =>
        refine iteF ⟨sm, ?_⟩
        rw [e1, List.filter_append, List.filter_cons_of_neg (by rw [hb]; exact Bool.false_ne_true), List.filter_nil, List.append_nil]
        exact hD
    rintro H2 ⟨s2, hD⟩
    rw [List.length_map, prl, List.take_length] at hD
    refine ⟨D, _, rfl, .inl ⟨SqL.of hD, fun pc npc => ?_⟩⟩
    have s3 : Same H (upd H2 pc (.tup ((clausesOf r o).map V.str))) := s1.trans (s2.trans (same_upd npc))
    have e3 : upd H2 pc (.tup ((clausesOf r o).map V.str)) pc = some (.tup ((clausesOf r o).map V.str)) := upd_same
    have ec : ((((asked r o).filter fun p => p.2).map fun p => p.1).map V.str) = (clausesOf r o).map V.str := rfl
    rw [ec]
    generalize upd H2 pc (HO.tup ((clausesOf r o).map V.str)) = H3 at s3 e3 ⊢
    refine ⟨_, rfl, _, .inr (.inl ⟨_, SqT.of e3, rfl⟩), ?_⟩
    cases hk : (!((clausesOf r o).map V.str).isEmpty) with
    | true => exact iteT (iteT ⟨_, rfl, q H3 pc s3 e3⟩)
    | false =>
      refine iteF ⟨_, rfl, a, r, rfl, (ra.same s3).1, ra.2.2.1, fun H4 p4 s4 e4 => ⟨p4, _, rfl, .inr (SqT.of e4), _, _, rfl, rfl, _, rfl, ?_⟩⟩
      rw [List.length_map]
      refine ite2 (fun _ => ⟨_, rfl, q H4 pc (s3.trans s4) (s4 _ _ e3)⟩) (fun z => ?_)
      exact absurd (decide_eq_true (by omega)) z
end
end K18

namespace K18
open PySem PySem.Spec PyProof.Rows L2 MG
/-! ### the mathematics of what is built -/
theorem sum_set : ∀ (l : List Int) (j : Nat) (h : j < l.length) (v : Int), (l.set j v).sum = l.sum - l[j] + v
  | x :: r, 0, _, v => by
    rw [List.set_cons_zero, List.sum_cons, List.sum_cons]
    show v + r.sum = x + r.sum - x + v
    omega
  | x :: r, j + 1, h, v => by
    have h' : j < r.length := by rw [List.length_cons] at h; omega
    rw [List.set_cons_succ, List.sum_cons, List.sum_cons, sum_set r j h' v]
    show _ = x + r.sum - r[j] + v
    omega
theorem mem_le_sum : ∀ {l : List Int}, (∀ n ∈ l, 0 ≤ n) → ∀ n ∈ l, n ≤ l.sum
  | x :: r, h, n, hn => by
    have hr : 0 ≤ r.sum := by
      have : ∀ l : List Int, (∀ n ∈ l, 0 ≤ n) → 0 ≤ l.sum := by
        intro l
        induction l with
        | nil => intro _; exact Int.le_refl _
        | cons y t ih =>
          intro ht
          have h1 := ht y List.mem_cons_self
          have h2 := ih fun m hm => ht m (List.mem_cons_of_mem _ hm)
          rw [List.sum_cons]; omega
      exact this r fun m hm => h m (List.mem_cons_of_mem _ hm)
    have hx := h x List.mem_cons_self
    rw [List.sum_cons]
    rcases List.mem_cons.mp hn with rfl | hn
    · omega
    · have := mem_le_sum (fun m hm => h m (List.mem_cons_of_mem _ hm)) n hn
      omega
theorem sum_mul (c : Int) : ∀ l : List Int, (l.map fun n => c * n).sum = c * l.sum
  | [] => by rw [List.map_nil, List.sum_nil, Int.mul_zero]
  | x :: r => by rw [List.map_cons, List.sum_cons, List.sum_cons, sum_mul c r, Int.mul_add]
theorem v2_pow_mul (t : Nat) {x : Nat} (h : 0 < x) : v2 (2 ^ t * x) = t + v2 x := by
  induction t with
  | zero => rw [Nat.pow_zero, Nat.one_mul, Nat.zero_add]
  | succ t ih =>
    have h0 : 2 ^ t * x ≠ 0 := by
      have := Nat.mul_pos (Nat.two_pow_pos t) h
      omega
    rw [Nat.pow_succ, Nat.mul_comm (2 ^ t) 2, Nat.mul_assoc, v2_mul2 h0, ih]
    omega
theorem v2_zero_iff {x : Nat} (h : 0 < x) : v2 x = 0 ↔ x % 2 = 1 := by
  constructor
  · intro z
    rcases Nat.mod_two_eq_zero_or_one x with y | y
    · rw [v2_even (by omega) y] at z; omega
    · exact y
  · exact v2_odd
/-- how the ones and twos stand while they are built -/
structure Mk (many odd : Nat) (xs : List Int) : Prop where
  len : xs.length = many
  pos : ∀ x ∈ xs, 1 ≤ x
  par : xs.map (fun x => x % 2) = List.replicate odd 1 ++ List.replicate (many - odd) 0
  one : (1 : Int) ∈ xs
theorem mk_start {many odd : Nat} (h1 : 1 ≤ odd) (h2 : odd ≤ many) : Mk many odd (List.replicate odd 1 ++ List.replicate (many - odd) 2) := by
  refine ⟨by rw [List.length_append, List.length_replicate, List.length_replicate]; omega, ?_, ?_, ?_⟩
  · intro x hx
    rcases List.mem_append.mp hx with h | h
    · rw [List.eq_of_mem_replicate h]; decide
    · rw [List.eq_of_mem_replicate h]; decide
  · rw [List.map_append, List.map_replicate, List.map_replicate]; rfl
  · exact List.mem_append_left _ (List.mem_replicate.mpr ⟨by omega, rfl⟩)
theorem sum_start (odd m : Nat) : (List.replicate odd (1 : Int) ++ List.replicate m (2 : Int)).sum = (odd : Int) + 2 * (m : Int) := by
  have e1 : ∀ k : Nat, (List.replicate k (1 : Int)).sum = k := by
    intro k
    induction k with
    | zero => rfl
    | succ k ih => rw [List.replicate_succ, List.sum_cons, ih]; omega
  have e2 : ∀ k : Nat, (List.replicate k (2 : Int)).sum = 2 * k := by
    intro k
    induction k with
    | zero => rfl
    | succ k ih => rw [List.replicate_succ, List.sum_cons, ih]; omega
  rw [List.sum_append, e1, e2]
theorem par_set {xs : List Int} {j : Nat} (h : j < xs.length) {m : Int} (hm : m % 2 = 0) : (xs.set j (xs[j] + m)).map (fun x => x % 2) = xs.map (fun x => x % 2) := by
  rw [List.map_set]
  have e : (xs[j] + m) % 2 = xs[j] % 2 := by omega
  rw [e]
  have : (xs.map fun x => x % 2)[j]'(by rw [List.length_map]; exact h) = xs[j] % 2 := by rw [List.getElem_map]
  rw [← this, List.set_getElem_self]
/-- some place, not the first one -/
theorem Mk.set {many odd : Nat} {xs : List Int} (M : Mk many odd xs) (h0 : xs[0]? = some 1) {j : Nat} (hj : j < xs.length) (hj0 : j ≠ 0) {m : Int} (m0 : 0 ≤ m) (hm : m % 2 = 0) :
    Mk many odd (xs.set j (xs[j] + m)) ∧ (xs.set j (xs[j] + m))[0]? = some 1 := by
  have g0 : (xs.set j (xs[j] + m))[0]? = some 1 := by rw [List.getElem?_set_ne (by omega)]; exact h0
  refine ⟨⟨by rw [List.length_set]; exact M.len, ?_, by rw [par_set hj hm]; exact M.par, List.mem_of_getElem? g0⟩, g0⟩
  intro x hx
  rcases List.mem_or_eq_of_mem_set hx with h | h
  · exact M.pos x h
  · rw [h]
    have := M.pos _ (List.getElem_mem hj)
    omega
def Bu (total many odd tw : Nat) (ns : List Int) : Prop := ns.length = many ∧ ns.sum = total ∧ gl ns = 2 ^ tw ∧ (fewT tw ns).length = odd ∧ ∀ n ∈ ns, 0 < n
theorem Mk.bu {many odd : Nat} {xs : List Int} (M : Mk many odd xs) (hodd : odd ≤ many) (tw total : Nat) (hs : 2 ^ tw * xs.sum = (total : Int)) : Bu total many odd tw (xs.map fun x => 2 ^ tw * x) := by
  have p0 : (0 : Int) < 2 ^ tw := Int.pow_pos (by decide)
  refine ⟨by rw [List.length_map]; exact M.len, by rw [sum_mul]; exact hs, ?_, ?_, ?_⟩
  · rw [gl_mul _ (by omega) fun n hn => by have := M.pos n hn; omega]
    have h1 : gl xs = 1 := Nat.dvd_one.mp (by have := gl_dvd M.one; exact this)
    rw [h1, Nat.mul_one]
    have : ((2 : Int) ^ tw) = ((2 ^ tw : Nat) : Int) := by rw [Int.natCast_pow]; rfl
    rw [this, Int.toNat_natCast]
  · unfold fewT
    rw [List.filter_map, List.length_map]
    have e : (xs.filter ((fun n : Int => decide (n > 0) && decide (v2 n.toNat ≤ tw)) ∘ fun x => 2 ^ tw * x)).length = (xs.filter fun x => decide (x % 2 = 1)).length := by
      congr 1
      refine List.filter_congr fun x hx => ?_
      have hx1 := M.pos x hx
      have hx2 : 0 < 2 ^ tw * x := Int.mul_pos p0 (by omega)
      have e2 : (2 ^ tw * x).toNat = 2 ^ tw * x.toNat := by
        rw [Int.toNat_mul (by omega) (by omega)]
        congr 1
      show (decide (2 ^ tw * x > 0) && decide (v2 (2 ^ tw * x).toNat ≤ tw)) = decide (x % 2 = 1)
      rw [decide_eq_true hx2, Bool.true_and, e2, v2_pow_mul tw (by omega)]
      have k := v2_zero_iff (x := x.toNat) (by omega)
      by_cases z : x % 2 = 1
      · rw [decide_eq_true z, decide_eq_true (by have := k.mpr (by omega); omega)]
      · rw [decide_eq_false z, decide_eq_false (fun y => z (by have := k.mp (by omega); omega))]
    rw [e]
    have e3 : (xs.filter fun x => decide (x % 2 = 1)).length = ((xs.map fun x => x % 2).filter fun x => decide (x = 1)).length := by
      rw [List.filter_map, List.length_map]; rfl
    rw [e3, M.par, List.filter_append, List.length_append, List.filter_replicate_of_pos (by decide), List.filter_replicate_of_neg (by decide), List.length_replicate]
    rfl
  · intro n hn
    obtain ⟨x, hx, rfl⟩ := List.mem_map.mp hn
    have := M.pos x hx
    exact Int.mul_pos p0 (by omega)
abbrev sBuilt : Stmt := topS 27
abbrev nBuilt : List Str := ["_law_box_here", "_law_total", "_law_many", "_law_odd", "_law_twos_more", "_law_base", "_law_turn", "_law_left", "_law_some", "_law_more", "_law_place", "_law_amount"]
theorem scBuilt : FnScope ["_law_box_here", "_law_total", "_law_many", "_law_odd", "_law_twos_more", "_law_base", "_law_turn", "_law_left", "_law_some", "_law_more", "_law_place", "_law_amount"] ["_law_box_here", "_law_total", "_law_many", "_law_odd", "_law_twos_more"] (defScope sBuilt) := ⟨rfl, rfl, rfl, by decide +kernel, rfl, by decide +kernel, by decide +kernel⟩
theorem flat_rep (c : Int) : ∀ m : Nat, (List.replicate m [V.int c]).flatten = (List.replicate m c).map V.int
  | 0 => rfl
  | m + 1 => by rw [List.replicate_succ, List.flatten_cons, flat_rep c m, List.replicate_succ]; rfl
theorem ix_neg1 {m : Nat} (h : 1 ≤ m) : ixN m (-1) = some (m - 1) := by
  unfold ixN
  rw [if_neg (by decide), if_pos (by omega)]
  congr 1
  omega
theorem at_neg1 {α : Type} {xs : List α} {v : α} (h : 1 ≤ xs.length) (e : xs[xs.length - 1]? = some v) : atI xs (-1) = some v := by
  unfold atI
  rw [ix_neg1 h]
  exact e
theorem ix_nat {m j : Nat} (h : j < m) : ixN m (j : Int) = some j := by
  unfold ixN
  rw [if_pos (by omega), if_pos (by omega), Int.toNat_natCast]
section
variable {P : Program} {w : World} {K : PySem.W.Frag} {mg : Str → Option Value} {base : Heap}
def spBuilt : Sp := fun vs H Q _ => ∃ (b : Addr) (total many odd tw n : Nat), vs = [.ref b, .int total, .int many, .int odd, .int tw] ∧ Box H b n ∧ n ≤ 900000 ∧ 1 ≤ total ∧ total ≤ 300 ∧ 3 ≤ many ∧ many ≤ 7 ∧ 1 ≤ odd ∧ odd ≤ many ∧ tw ≤ 2 ∧
  ∀ p (L : List Addr) H', H p = none → Box H' b (n + 6) → SX b H H' → H' p = some (.lst (L.map V.ref)) → (L = [] ∨ ∃ q ns, L = [q] ∧ H q = none ∧ H' q = some (.lst (List.map V.int ns)) ∧ Bu total many odd tw ns) → Q (.ref p) H'
theorem ok_built {f fT : Addr} {fd fdT : FuncData} {k : Nat} (F : Fun K "_law_built" "_law_built" sBuilt f fd)
    (FT : Fun K "_law_take" "_law_take" sTake fT fdT) (bT : Binds K fdT ["_law_box_here", "_law_many"] []) (gT : mg "_law_take" = some (.ref fT)) (m_range : mg "range" = none) :
    FnOk P w K mg base CX0 (k + 2) f fd ["_law_box_here", "_law_total", "_law_many", "_law_odd", "_law_twos_more"] spBuilt := by
  have GT : FnOk P w K mg base CX0 (k + 1) fT fdT ["_law_box_here", "_law_many"] spTake := ok_take FT
  refine F.ok scBuilt (fun vs H Q E h => ?_) (fun cdv A outer s H vs Q E hr h => ?_)
  · obtain ⟨b, total, many, odd, tw, n, rfl, _⟩ := h
    rfl
  · obtain ⟨b, total, many, odd, tw, n, rfl, hB, hn, t1, t2, m1, m2, o1, o2, w2, q⟩ := h
    refine ⟨_, pss_cons (ps_set (i := 5) scBuilt.nd rfl (.inr rfl) pe_int)
      (pss_cons (ps_for PassesOwn.never rfl (pi_range1 (by rfl) m_range (pa_cons (pv 4) pa_nil)) (pg_name (i := 6) scBuilt.nd rfl (.inl rfl)) (pss_one (ps_set (i := 5) scBuilt.nd rfl (.inr rfl) (pe_op op_mul pe_int (pv 5)))))
      (pss_cons (ps_if (PW.pt (pw_or (pt_cmpR op_ne (pe_op op_mod (pv 1) (pv 5)) pe_int (nomark _)) (pw_or1 (pt_cmpR op_eq (pv 3) pe_int (nomark _))))) (pss_one (ps_ret (pe_lst pa_nil))) pss_nil)
      (pss_cons (ps_set (i := 7) scBuilt.nd rfl (.inl rfl) (pe_op op_sub (pe_op op_sub (pe_op op_fdiv (pv 1) (pv 5)) (pv 3)) (pe_op op_mul pe_int (pe_op op_sub (pv 2) (pv 3)))))
      (pss_cons (ps_if (PW.pt (pw_or (pt_cmpR op_lt (pv 7) pe_int (nomark _)) (pw_or1 (pt_cmpR op_eq (pe_op op_mod (pv 7) pe_int) pe_int (nomark _))))) (pss_one (ps_ret (pe_lst pa_nil))) pss_nil)
      (pss_cons (ps_set (i := 8) scBuilt.nd rfl (.inl rfl) (pe_op op_cat (pe_op op_rep (pe_lst (pa_cons pe_int pa_nil)) (pv 3)) (pe_op op_rep (pe_lst (pa_cons pe_int pa_nil)) (pe_op op_sub (pv 2) (pv 3)))))
      (pss_cons (ps_for PassesOwn.never rfl (pi_range1 (by rfl) m_range (pa_cons pe_int pa_nil)) (pg_name (i := 6) scBuilt.nd rfl (.inl rfl)) (pss_cons (ps_set (i := 9) scBuilt.nd rfl (.inl rfl) (pe_op op_mul pe_int (pe_call GT hr (by rfl) gT FT.kp bT .nil pass0 (pa_cons (pv 0) (pa_cons (pe_op op_add (pe_op op_fdiv (pv 7) pe_int) pe_int) pa_nil)))))
      (pss_cons (ps_set (i := 10) scBuilt.nd rfl (.inl rfl) (pe_op op_add pe_int (pe_call GT hr (by rfl) gT FT.kp bT .nil pass0 (pa_cons (pv 0) (pa_cons (pe_op op_sub (pv 2) pe_int) pa_nil)))))
      (pss_one (ps_asg (pe_tup (pa_cons (pe_op op_add (pe_ix ix_list (pv 8) (pv 10) (fun _ _ => rfl)) (pv 9)) (pa_cons (pe_op op_sub (pv 7) (pv 9)) pa_nil))) (pg_tup rfl (pgs_cons (pg_sub (pv 8) (pv 10) set_list) (pgs_cons (pg_name (i := 7) scBuilt.nd rfl (.inl rfl)) pgs_nil))))))))
      (pss_cons (ps_asg (pe_op op_add (pe_ix ix_list (pv 8) (pe_un un_neg pe_int) (fun _ _ => rfl)) (pv 7)) (pg_sub (pv 8) (pe_un un_neg pe_int) set_list))
      (pss_one (ps_ret (pe_lst (pa_cons (pe_lc (own := [("_law_amount", 11)]) (g := gName 11) (tt := tYes) rfl scBuilt.nd (pi_list (pv 8)) (blkOk_by (N := nBuilt) (sc := defScope sBuilt) (by decide +kernel)) (fun _ _ _ _ _ => pg_name (i := 11) scBuilt.nd rfl (Or.inl rfl)) (fun _ _ _ _ _ => pts_nil) (fun _ _ _ _ _ => pe_op op_mul (pv 5) (pv 11))) pa_nil))))))))))), ?_⟩
    have p0 : (0 : Int) < 2 ^ tw := Int.pow_pos (by decide)
    have p1 : (2 : Int) ^ tw ≤ 4 := by
      rcases (show tw = 0 ∨ tw = 1 ∨ tw = 2 by omega) with rfl | rfl | rfl <;> decide
    obtain ⟨bo, bz⟩ := hB.get
    have emp : ∀ p, H p = none → Q (.ref p) (upd H p (.lst [])) := fun p np => q p [] _ np ((hB.new np).le (by omega)) (.of_same (same_upd np)) upd_same (.inl rfl)
    refine ⟨_, rfl, (tw : Int), rfl, by omega, by omega, ?_⟩
    refine for_range (lo := 0) (n := tw) (fun i σ H' => ∃ y6, σ = [some (.ref b), some (.int total), some (.int many), some (.int odd), some (.int tw), some (.int (2 ^ i)), y6, none, none, none, none, none] ∧ H = H') ⟨none, rfl, rfl⟩ ?_ ?_
    · rintro i σ H' hi ⟨y6, rfl, rfl⟩
      refine ⟨_, rfl, 2, 2 ^ i, rfl, rfl, .inl ⟨by decide, by decide⟩, some (.int (0 + (i : Int))), ?_, rfl⟩
      rw [Int.pow_succ, Int.mul_comm]
      rfl
    rintro σ H' ⟨y6, rfl, rfl⟩
    refine ⟨_, rfl, _, rfl, (total : Int), 2 ^ tw, rfl, rfl, p0, rfl, _, rfl, ?_⟩
    rw [decV, notD]
    refine ite2 (fun hc => iteT ⟨by show 0 ≤ sizeLine; decide, emp⟩) (fun hc => ?_)
    have hmod : (total : Int) % 2 ^ tw = 0 := Decidable.of_not_not fun z => hc (decide_eq_true z)
    refine ⟨_, rfl, rfl, _, rfl, ite2 (fun _ => ⟨by show 0 ≤ sizeLine; decide, emp⟩) (fun _ => ?_)⟩
    refine ⟨_, rfl, _, rfl, (total : Int), 2 ^ tw, rfl, rfl, ⟨p0, by omega⟩, _, rfl, _, (odd : Int), rfl, rfl, _, rfl, _, rfl, (many : Int), (odd : Int), rfl, rfl, 2, _, rfl, rfl, .inl ⟨by decide, by decide⟩, _, _, rfl, rfl, ?_⟩
    have hS : (2 : Int) ^ tw * ((total : Int) / 2 ^ tw) = total := by
      have := Int.mul_ediv_add_emod (total : Int) (2 ^ tw)
      omega
    have hS1 : (total : Int) / 2 ^ tw ≤ total := Int.ediv_le_self _ (by omega)
    generalize (total : Int) / 2 ^ tw = S at hS hS1 ⊢
    dsimp only
    generalize hleft : S - (odd : Int) - 2 * ((many : Int) - (odd : Int)) = left
    refine ⟨_, rfl, left, 0, rfl, rfl, _, rfl, ite2 (fun _ => iteT ⟨by show 0 ≤ sizeLine; decide, emp⟩) (fun hc1 => ?_)⟩
    have l0 : 0 ≤ left := by
      have : ¬ left < 0 := fun z => hc1 (decide_eq_true z)
      omega
    refine ⟨_, rfl, left, 2, rfl, rfl, (by show (0 : Int) < 2; decide), rfl, _, rfl, ?_⟩
    rw [decV]
    refine ite2 (fun _ => ⟨by show 0 ≤ sizeLine; decide, emp⟩) (fun hc2 => ?_)
    have l2 : left % 2 = 0 := by
      have : ¬ left % 2 = 1 := fun z => hc2 (decide_eq_true z)
      omega
    refine ⟨by show 1 ≤ sizeLine; decide, fun a1 n1 => ⟨_, rfl, a1, (odd : Int), [.int 1], rfl, rfl, upd_same, by omega, by omega, by show 1 * (odd : Int).toNat ≤ sizeLine; rw [sizeLine_eq]; omega, fun a2 n2 => ?_⟩⟩
    rw [flat_rep, Int.toNat_natCast]
    have s2 : Same H (upd (upd H a1 (.lst [.int 1])) a2 (.lst ((List.replicate odd (1 : Int)).map V.int))) := (same_upd n1).trans (same_upd n2)
    have e2 : upd (upd H a1 (.lst [.int 1])) a2 (.lst ((List.replicate odd (1 : Int)).map V.int)) a2 = some (.lst ((List.replicate odd (1 : Int)).map V.int)) := upd_same
    generalize upd (upd H a1 (.lst [.int 1])) a2 (HO.lst ((List.replicate odd (1 : Int)).map V.int)) = H2 at s2 e2 ⊢
    refine ⟨by show 1 ≤ sizeLine; decide, fun a3 n3 => ⟨_, rfl, _, rfl, (many : Int), (odd : Int), rfl, rfl, a3, (many : Int) - odd, [.int 2], rfl, rfl, upd_same, by omega, by omega, by show 1 * ((many : Int) - odd).toNat ≤ sizeLine; rw [sizeLine_eq]; omega, fun a4 n4 => ?_⟩⟩
    rw [flat_rep, show ((many : Int) - odd).toNat = many - odd by omega]
    have s4 : Same H2 (upd (upd H2 a3 (.lst [.int 2])) a4 (.lst ((List.replicate (many - odd) (2 : Int)).map V.int))) := (same_upd n3).trans (same_upd n4)
    have e4 : upd (upd H2 a3 (.lst [.int 2])) a4 (.lst ((List.replicate (many - odd) (2 : Int)).map V.int)) a4 = some (.lst ((List.replicate (many - odd) (2 : Int)).map V.int)) := upd_same
    generalize upd (upd H2 a3 (.lst [.int 2])) a4 (HO.lst ((List.replicate (many - odd) (2 : Int)).map V.int)) = H4 at s4 e4 ⊢
    refine ⟨a2, a4, _, _, rfl, rfl, s4 _ _ e2, e4, by rw [List.length_map, List.length_map, List.length_replicate, List.length_replicate, sizeLine_eq]; omega, fun l5 n5 => ?_⟩
    rw [← List.map_append]
    have M0 := mk_start o1 o2
    have sum0 := sum_start odd (many - odd)
    have one0 : (List.replicate odd (1 : Int) ++ List.replicate (many - odd) 2)[0]? = some 1 := by
      obtain ⟨m, rfl⟩ : ∃ m, odd = m + 1 := ⟨odd - 1, by omega⟩
      rfl
    generalize List.replicate odd (1 : Int) ++ List.replicate (many - odd) 2 = xs0 at M0 sum0 one0 ⊢
    have f5 : H l5 = none := (s2.trans s4).free n5
    have nb5 : b ≠ l5 := ne_of_none bz f5
    have s5 : Same H (upd H4 l5 (.lst (xs0.map V.int))) := s2.trans (s4.trans (same_upd n5))
    have e5 : upd H4 l5 (.lst (xs0.map V.int)) l5 = some (.lst (xs0.map V.int)) := upd_same
    generalize upd H4 l5 (HO.lst (xs0.map V.int)) = H5 at s5 e5 ⊢
    have hB5 : Box H5 b n := hB.at (by rw [s5 _ _ bz, bz])
    refine ⟨3, rfl, by decide, by decide, ?_⟩
    refine for_range (lo := 0) (n := 3) (fun i σ H' => ∃ y6 y9 y10, ∃ xs : List Int, ∃ lf : Int, σ = [some (.ref b), some (.int total), some (.int many), some (.int odd), some (.int tw), some (.int (2 ^ tw)), y6, some (.int lf), some (.ref l5), y9, y10, none] ∧ Mk many odd xs ∧ xs[0]? = some 1 ∧ xs.sum + lf = S ∧ 0 ≤ lf ∧ lf ≤ left ∧ lf % 2 = 0 ∧ H' l5 = some (.lst (xs.map V.int)) ∧ SX b H H' ∧ Box H' b (n + 2 * i)) ?_ ?_ ?_
    · exact ⟨y6, none, none, xs0, left, rfl, M0, one0, by omega, l0, Int.le_refl _, l2, e5, .of_same s5, hB5⟩
    · rintro i σ H' hi ⟨y6, y9, y10, xs, lf, rfl, M, one, hsum, f0, f1, f2, e, x', hB'⟩
      refine ⟨_, rfl, _, rfl, lf, 2, rfl, rfl, ⟨by decide, by decide⟩, _, 1, rfl, rfl, b, lf / 2 + 1, n + 2 * i, rfl, hB', by omega, by omega, by omega, fun r H1 r0 r1 hB1 k1 => ⟨2, r, rfl, rfl, .inl ⟨by decide, by decide⟩, ?_⟩⟩
      refine ⟨_, rfl, _, rfl, (many : Int), 1, rfl, rfl, b, (many : Int) - 1, n + 2 * i + 1, rfl, hB1, by omega, by omega, by omega, fun r2 H2 r20 r21 hB2 k2 => ⟨1, r2, rfl, rfl, ?_⟩⟩
      have eH2 : H2 l5 = some (.lst (xs.map V.int)) := by rw [k2 l5 nb5.symm, k1 l5 nb5.symm]; exact e
      have x2 : SX b H H2 := x'.trans ((SX.of_eq k1).trans (.of_eq k2))
      obtain ⟨j, hj⟩ : ∃ j : Nat, 1 + r2 = (j : Int) := ⟨(1 + r2).toNat, by omega⟩
      dsimp only
      rw [hj]
      have hlen := M.len
      have hjl : j < xs.length := by omega
      refine ⟨_, rfl, _, rfl, l5, _, (j : Int), .int xs[j], rfl, rfl, SqL.of eH2, atI_nat (by rw [List.getElem?_map, List.getElem?_eq_getElem hjl]; rfl), _, rfl, xs[j], 2 * r, rfl, rfl, _, rfl, _, rfl, lf, 2 * r, rfl, rfl, by show 2 ≤ sizeLine; decide, fun t nt => ?_⟩
      have et : upd H2 t (.tup [.int (xs[j] + 2 * r), .int (lf - 2 * r)]) l5 = some (.lst (xs.map V.int)) := same_upd nt _ _ eH2
      refine ⟨t, _, rfl, SqT.of upd_same, rfl, .int (xs[j] + 2 * r), [.int (lf - 2 * r)], rfl, _, rfl, _, rfl, l5, _, (j : Int), j, rfl, rfl, et, ix_nat (by rw [List.length_map]; exact hjl), .int (lf - 2 * r), [], rfl, rfl, ?_⟩
      obtain ⟨M', one'⟩ := M.set one hjl (by omega) (m := 2 * r) (by omega) (by omega)
      have sum' := sum_set xs j hjl (xs[j] + 2 * r)
      refine ⟨_, _, _, xs.set j (xs[j] + 2 * r), lf - 2 * r, rfl, M', one', by omega, by omega, by omega, by omega, ?_, ((x2.new nt).set f5), ?_⟩
      · rw [upd_same, List.map_set]
      · exact ((hB2.new nt).set nb5).le (by omega)
    rintro σ H' ⟨y6, y9, y10, xs, lf, rfl, M, one, hsum, f0, f1, f2, e, x', hB'⟩
    have hlen := M.len
    have hjl : xs.length - 1 < xs.length := by omega
    refine ⟨_, rfl, 1, rfl, l5, _, -1, .int xs[xs.length - 1], rfl, rfl, SqL.of e, at_neg1 (by rw [List.length_map]; omega) (by rw [List.length_map, List.getElem?_map, List.getElem?_eq_getElem hjl]; rfl), _, rfl, xs[xs.length - 1], lf, rfl, rfl, _, rfl, 1, rfl, l5, _, -1, xs.length - 1, rfl, rfl, e, by rw [List.length_map]; exact ix_neg1 (by omega), ?_⟩
    obtain ⟨M', one'⟩ := M.set one hjl (by omega) (m := lf) f0 f2
    have sum' := sum_set xs (xs.length - 1) hjl (xs[xs.length - 1] + lf)
    rw [← List.map_set]
    have total' : (2 : Int) ^ tw * (xs.set (xs.length - 1) (xs[xs.length - 1] + lf)).sum = total := by
      rw [sum', show xs.sum - xs[xs.length - 1] + (xs[xs.length - 1] + lf) = S by omega]
      exact hS
    generalize xs.set (xs.length - 1) (xs[xs.length - 1] + lf) = ys at M' total' ⊢
    have e6 : upd H' l5 (.lst (ys.map V.int)) l5 = some (.lst (ys.map V.int)) := upd_same
    have x6 : SX b H (upd H' l5 (.lst (ys.map V.int))) := x'.set f5
    have hB6 : Box (upd H' l5 (.lst (ys.map V.int))) b (n + 2 * 3) := hB'.set nb5
    generalize upd H' l5 (HO.lst (ys.map V.int)) = H6 at e6 x6 hB6 ⊢
    refine ⟨.ref l5, rfl, l5, rfl, ⟨_, SqL.of e6⟩, fun D nD => ?_⟩
    refine lc_list (K := K) (a := l5) (xs := ys.map V.int) (fun i H' => Same H6 H' ∧ H' D = some (.lst (((ys.take i).map fun x => 2 ^ tw * x).map V.int))) ⟨same_upd nD, upd_same⟩ ?_ ?_ ?_
    · rintro i H' _ ⟨sm, _⟩
      exact SqL.of (sm _ _ e6)
    · rintro i x H' hx ⟨sm, hD⟩
      rw [List.getElem?_map] at hx
      obtain ⟨v, hv, rfl⟩ := Option.map_eq_some_iff.mp hx
      refine ⟨rfl, _, rfl, _, rfl, 2 ^ tw, v, rfl, rfl, .inl ⟨by omega, by omega⟩, _, hD, ?_, ?_, ?_⟩
      · rw [List.length_map, List.length_map, List.length_take]
        have := M'.len
        exact small1000 (by omega)
      · intro c o hc
        rw [upd_ne (ne_of_none hc nD)]
        exact sm c o hc
      · rw [upd_same, List.take_add_one, hv, List.map_append, List.map_append]
        rfl
    rintro H7 ⟨s7, hD⟩
    rw [List.length_map, List.take_length] at hD
    refine ⟨by show 1 ≤ sizeLine; decide, fun p np => ?_⟩
    obtain ⟨b6, z6⟩ := hB6.get
    have hB7 : Box H7 b (n + 2 * 3) := hB6.at (by rw [s7 _ _ z6, z6])
    have x7 : SX b H H7 := x6.trans (.of_same s7)
    refine q p [D] _ (x7.free hB7 np) ((hB7.new np).le (by omega)) (x7.new np) upd_same (.inr ⟨D, _, rfl, x6.free hB6 nD, same_upd np _ _ hD, ?_⟩)
    exact M'.bu o2 tw total total'
end
end K18

namespace K18
open PySem PySem.Spec PyProof.Rows L2 MG
abbrev sWords : Stmt := topS 28
abbrev nWords : List Str := ["_law_one", "_law_other", "_law_row", "_law_last", "_law_amount", "_law_more", "_law_words_here"]
theorem scWords : FnScope ["_law_one", "_law_other", "_law_row", "_law_last", "_law_amount", "_law_more", "_law_words_here"] ["_law_one", "_law_other", "_law_row", "_law_last"] (defScope sWords) := ⟨rfl, rfl, rfl, by decide +kernel, rfl, by decide +kernel, by decide +kernel⟩
def wd (b : Bool) (x : Str) : List Str := if b = true then [x] else []
theorem flat_b (b : Bool) (x : Str) : (List.replicate (if b = true then (1 : Int) else 0).toNat [V.str x]).flatten = (wd b x).map V.str := by
  cases b <;> rfl
theorem wd_len (b : Bool) (x : Str) : (wd b x).length ≤ 1 := by
  cases b
  · exact Nat.zero_le _
  · exact Nat.le_refl _
theorem b2 (b : Bool) : (0 : Int) ≤ (if b = true then (1 : Int) else 0) ∧ (if b = true then (1 : Int) else 0) ≤ 1 := by
  cases b <;> decide
def wordsT (t1 o1 t2 o2 m2 : Nat) (r o : List Int) : List Str := wd (hfn r o) "nothing" ++ wd (decide (t2 < t1)) "twos" ++ wd (decide (t2 = t1) && decide (o1 < o2)) "odd ones" ++ wd (decide (t2 = t1) && decide (o2 = m2)) "doubled"
section
variable {P : Program} {w : World} {K : PySem.W.Frag} {mg : Str → Option Value} {base : Heap}
def spWords : Sp := fun vs H Q _ => ∃ (a1 a2 a b : Addr) (t1 o1 m1 t2 o2 m2 : Nat) (r o : List Int), vs = [.ref a1, .ref a2, .ref a, .ref b] ∧ H a1 = some (.tup [.int t1, .int o1, .int m1]) ∧ H a2 = some (.tup [.int t2, .int o2, .int m2]) ∧ H a = some (.tup (List.map V.int r)) ∧ H b = some (.tup (List.map V.int o)) ∧ r.length = o.length ∧ r.length ≤ 40 ∧
  ∀ H' p, Same H H' → H' p = some (.tup ((wordsT t1 o1 t2 o2 m2 r o).map V.str)) → Q (.ref p) H'
theorem ok_words {f : Addr} {fd : FuncData} {k : Nat} (F : Fun K "_law_words" "_law_words" sWords f fd) (m_any : mg "any" = none) (m_zip : mg "zip" = none) (m_int : mg "int" = none) (m_tuple : mg "tuple" = none) :
    FnOk P w K mg base CX0 (k + 1) f fd ["_law_one", "_law_other", "_law_row", "_law_last"] spWords := by
  refine F.ok scWords (fun vs H Q E h => ?_) (fun cdv A outer s H vs Q E hr h => ?_)
  · obtain ⟨a1, a2, a, b, t1, o1, m1, t2, o2, m2, r, o, rfl, _⟩ := h
    rfl
  · obtain ⟨a1, a2, a, b, t1, o1, m1, t2, o2, m2, r, o, rfl, ea1, ea2, ea, eb, hl, hn, q⟩ := h
    refine ⟨_, pss_cons (ps_set (i := 6) scWords.nd rfl (.inl rfl) (pe_op op_rep (pe_lst (pa_cons pe_str pa_nil)) (pe_callTy call_int1 (by rfl) m_int (by decide +kernel) (pa_cons (pe_callB (cr_any rfl) (by rfl) m_any (by decide +kernel) (pa_cons (pe_lc (own := [("_law_amount", 4), ("_law_more", 5)]) (g := gTup K 2 (gCons (gName 4) (gCons (gName 5) gNil))) (tt := tYes) rfl scWords.nd (RZ.pi_zipA (by rfl) m_zip (pa_cons (pv 2) (pa_cons (pv 3) pa_nil))) (blkOk_by (N := nWords) (sc := defScope sWords) (by decide +kernel)) (fun _ _ _ _ _ => pg_tup rfl (pgs_cons (pg_name (i := 4) scWords.nd rfl (.inl rfl) (.inr rfl)) (pgs_cons (pg_name (i := 5) scWords.nd rfl (.inl rfl) (.inr rfl)) pgs_nil))) (fun _ _ _ _ _ => pts_nil) (fun _ _ _ _ _ => (pe_and (pe_cmpR op_eq (pv 4) pe_int (nomark _)) (pe_one (pe_cmpR op_gt (pv 5) pe_int (nomark _)))))) pa_nil)) pa_nil))))
      (pss_cons (ps_set (i := 6) scWords.nd rfl (.inl rfl) (pe_op op_cat (pv 6) (pe_op op_rep (pe_lst (pa_cons pe_str pa_nil)) (pe_callTy call_int1 (by rfl) m_int (by decide +kernel) (pa_cons (pe_cmpR op_lt (pe_ix ix_tup (pv 1) pe_int (fun _ _ => rfl)) (pe_ix ix_tup (pv 0) pe_int (fun _ _ => rfl)) (nomark _)) pa_nil)))))
      (pss_cons (ps_set (i := 6) scWords.nd rfl (.inl rfl) (pe_op op_cat (pv 6) (pe_op op_rep (pe_lst (pa_cons pe_str pa_nil)) (pe_callTy call_int1 (by rfl) m_int (by decide +kernel) (pa_cons (pe_and (pe_cmpR op_eq (pe_ix ix_tup (pv 1) pe_int (fun _ _ => rfl)) (pe_ix ix_tup (pv 0) pe_int (fun _ _ => rfl)) (nomark _)) (pe_one (pe_cmpR op_gt (pe_ix ix_tup (pv 1) pe_int (fun _ _ => rfl)) (pe_ix ix_tup (pv 0) pe_int (fun _ _ => rfl)) (nomark _)))) pa_nil)))))
      (pss_one (ps_ret (pe_callTy call_tuple_of (by rfl) m_tuple (by decide +kernel) (pa_cons (pe_op op_cat (pv 6) (pe_op op_rep (pe_lst (pa_cons pe_str pa_nil)) (pe_callTy call_int1 (by rfl) m_int (by decide +kernel) (pa_cons (pe_and (pe_cmpR op_eq (pe_ix ix_tup (pv 1) pe_int (fun _ _ => rfl)) (pe_ix ix_tup (pv 0) pe_int (fun _ _ => rfl)) (nomark _)) (pe_one (pe_cmpR op_eq (pe_ix ix_tup (pv 1) pe_int (fun _ _ => rfl)) (pe_ix ix_tup (pv 1) pe_int (fun _ _ => rfl)) (nomark _)))) pa_nil)))) pa_nil)))))), ?_⟩
    refine ⟨by show 1 ≤ sizeLine; decide, fun l1 n1 => ?_⟩
    have s0 : Same H (upd H l1 (.lst [.str "nothing"])) := same_upd n1
    have e0 : upd H l1 (.lst [.str "nothing"]) l1 = some (.lst [.str "nothing"]) := upd_same
    generalize upd H l1 (HO.lst [.str "nothing"]) = G at s0 e0 ⊢
    have ea1 := s0 _ _ ea1
    have ea2 := s0 _ _ ea2
    have ea := s0 _ _ ea
    have eb := s0 _ _ eb
    refine ⟨_, rfl, _, rfl, a, b, _, _, rfl, .inr ⟨SqT.of ea, SqT.of eb, fun D nD => ?_⟩⟩
    refine lc_it (walk_zipT (K := K) (a := a) (b := b) (xs := r.map V.int) (ys := o.map V.int) (n := r.length) (by rw [List.length_map, List.length_map]; omega)) (fun i H' => Same G H' ∧ H' D = some (.lst (((hfnL r o).take i).map V.bl))) ⟨same_upd nD, upd_same⟩ ?_ ?_ ?_
    · intro i H' _ h
      exact ⟨SqT.of (h.1 _ _ ea), SqT.of (h.1 _ _ eb)⟩
    · rintro i x H' H'' hi ⟨sm, hD⟩ ⟨T, x1, x2, rfl, nT, rfl, e1, e2⟩
      have hi2 : i < o.length := by omega
      have e1' : x1 = .int r[i] := by
        have z : (r.map V.int)[i]? = some x1 := e1
        rw [List.getElem?_map, List.getElem?_eq_getElem hi] at z
        exact (Option.some.inj z).symm
      have e2' : x2 = .int o[i] := by
        have z : (o.map V.int)[i]? = some x2 := e2
        rw [List.getElem?_map, List.getElem?_eq_getElem hi2] at z
        exact (Option.some.inj z).symm
      subst e1' e2'
      have smT : Same H' (upd H' T (.tup [.int r[i], .int o[i]])) := same_upd nT
      have hz : (hfnL r o)[i]? = some (decide (r[i] = 0) && decide (o[i] > 0)) := by
        unfold hfnL
        rw [List.getElem?_map, (List.getElem?_zip_eq_some (z := (r[i], o[i]))).mpr ⟨List.getElem?_eq_getElem hi, List.getElem?_eq_getElem hi2⟩]
        rfl
      have fin : ∀ y, y = (decide (r[i] = 0) && decide (o[i] > 0)) → ∃ acc, upd H' T (.tup [.int r[i], .int o[i]]) D = some (.lst acc) ∧ acc.length < sizeLine ∧ Same G (upd (upd H' T (.tup [.int r[i], .int o[i]])) D (.lst (acc ++ [V.bl y]))) ∧ upd (upd H' T (.tup [.int r[i], .int o[i]])) D (.lst (acc ++ [V.bl y])) D = some (.lst (((hfnL r o).take (i + 1)).map V.bl)) := fun y hy => by
        refine ⟨_, smT _ _ hD, ?_, ?_, ?_⟩
        · rw [List.length_map, List.length_take]
          exact small1000 (by omega)
        · intro c o hc
          rw [upd_ne (ne_of_none hc nD)]
          exact smT _ _ (sm c o hc)
        · rw [upd_same, List.take_add_one, hz, List.map_append, hy]
          rfl
      refine ⟨T, [.int r[i], .int o[i]], rfl, .inl (.inl upd_same), rfl, .int r[i], [.int o[i]], rfl, .int o[i], [], rfl, rfl, rfl, ?_⟩
      refine ⟨_, rfl, rfl, _, rfl, ?_⟩
      have ez : decide (V.int r[i] = V.int 0) = decide (r[i] = 0) := by
        by_cases z : r[i] = 0
        · rw [z]; rfl
        · rw [decide_eq_false z, decide_eq_false (fun y => z (V.int.inj y))]
      rw [ez]
      refine ite2 (fun hp => ?_) (fun hp => ?_)
      · refine ⟨_, rfl, _, 0, rfl, rfl, ?_⟩
        exact fin _ (by rw [hp]; rfl)
      · have hp' : decide (r[i] = 0) = false := by cases h : decide (r[i] = 0) <;> first | rfl | exact absurd h hp
        exact fin _ (by rw [hp']; rfl)
    rintro H' ⟨sm, hD⟩
    have hlen : (hfnL r o).length = r.length := by
      unfold hfnL
      rw [List.length_map, List.length_zip]; omega
    rw [← hlen, List.take_length] at hD
    refine ⟨D, hfnL r o, rfl, SqL.of hD, ?_⟩
    have e : (hfnL r o).any id = hfn r o := by
      unfold hfnL hfn
      rw [List.any_map]
      rfl
    rw [e]
    have sm0 := s0.trans sm
    refine .inr ⟨_, rfl, l1, _, [.str "nothing"], rfl, rfl, sm _ _ e0, ?_, ?_, ?_, fun p1 np1 => ?_⟩
    · have := b2 (hfn r o); omega
    · have := b2 (hfn r o); omega
    · have := b2 (hfn r o); show 1 * _ ≤ sizeLine; rw [sizeLine_eq]; omega
    rw [flat_b]
    have s1 : Same H' (upd H' p1 (.lst ((wd (hfn r o) "nothing").map V.str))) := same_upd np1
    have e1 : upd H' p1 (.lst ((wd (hfn r o) "nothing").map V.str)) p1 = some (.lst ((wd (hfn r o) "nothing").map V.str)) := upd_same
    generalize upd H' p1 (HO.lst ((wd (hfn r o) "nothing").map V.str)) = H1 at s1 e1 ⊢
    have S1 : Same G H1 := sm.trans s1
    have SH1 : Same H H1 := s0.trans S1
    have g1 := S1 _ _ ea1
    have g2 := S1 _ _ ea2
    refine ⟨_, rfl, by show 1 ≤ sizeLine; decide, fun l2 n2 => ?_⟩
    have s2 : Same H1 (upd H1 l2 (.lst [.str "twos"])) := same_upd n2
    have e2 : upd H1 l2 (.lst [.str "twos"]) l2 = some (.lst [.str "twos"]) := upd_same
    generalize upd H1 l2 (HO.lst [.str "twos"]) = H2 at s2 e2 ⊢
    refine ⟨_, rfl, a2, _, 0, .int t2, rfl, rfl, SqT.of (s2 _ _ g2), atI_nat (j := 0) rfl, _, rfl, a1, _, 0, .int t1, rfl, rfl, SqT.of (s2 _ _ g1), atI_nat (j := 0) rfl, (t2 : Int), (t1 : Int), rfl, rfl, ?_⟩
    dsimp only
    rw [decL]
    refine .inr ⟨_, rfl, l2, _, [.str "twos"], rfl, rfl, e2, ?_, ?_, ?_, fun p2 np2 => ?_⟩
    · have := b2 (decide (t2 < t1)); omega
    · have := b2 (decide (t2 < t1)); omega
    · have := b2 (decide (t2 < t1)); show 1 * _ ≤ sizeLine; rw [sizeLine_eq]; omega
    rw [flat_b]
    have s3 : Same H2 (upd H2 p2 (.lst ((wd (decide (t2 < t1)) "twos").map V.str))) := same_upd np2
    have e3 : upd H2 p2 (.lst ((wd (decide (t2 < t1)) "twos").map V.str)) p2 = some (.lst ((wd (decide (t2 < t1)) "twos").map V.str)) := upd_same
    generalize upd H2 p2 (HO.lst ((wd (decide (t2 < t1)) "twos").map V.str)) = H3 at s3 e3 ⊢
    refine ⟨p1, p2, _, _, rfl, rfl, s3 _ _ (s2 _ _ e1), e3, by rw [List.length_map, List.length_map, sizeLine_eq]; have := wd_len (hfn r o) "nothing"; have := wd_len (decide (t2 < t1)) "twos"; omega, fun p3 np3 => ?_⟩
    rw [← List.map_append]
    have s4 : Same H3 (upd H3 p3 (.lst ((wd (hfn r o) "nothing" ++ wd (decide (t2 < t1)) "twos").map V.str))) := same_upd np3
    have e4 : upd H3 p3 (.lst ((wd (hfn r o) "nothing" ++ wd (decide (t2 < t1)) "twos").map V.str)) p3 = some (.lst ((wd (hfn r o) "nothing" ++ wd (decide (t2 < t1)) "twos").map V.str)) := upd_same
    generalize upd H3 p3 (HO.lst ((wd (hfn r o) "nothing" ++ wd (decide (t2 < t1)) "twos").map V.str)) = H4 at s4 e4 ⊢
    have hlen2 : (wd (hfn r o) "nothing" ++ wd (decide (t2 < t1)) "twos").length ≤ 2 := by
      rw [List.length_append]; have := wd_len (hfn r o) "nothing"; have := wd_len (decide (t2 < t1)) "twos"; omega
    unfold wordsT at q
    generalize wd (hfn r o) "nothing" ++ wd (decide (t2 < t1)) "twos" = W at e4 q hlen2 ⊢
    have S4 : Same H H4 := SH1.trans (s2.trans (s3.trans s4))
    have g1 := s4 _ _ (s3 _ _ (s2 _ _ g1))
    have g2 := s4 _ _ (s3 _ _ (s2 _ _ g2))
    refine ⟨_, rfl, by show 1 ≤ sizeLine; decide, fun l5 n5 => ?_⟩
    have s5 : Same H4 (upd H4 l5 (.lst [.str "odd ones"])) := same_upd n5
    have e5 : upd H4 l5 (.lst [.str "odd ones"]) l5 = some (.lst [.str "odd ones"]) := upd_same
    generalize upd H4 l5 (HO.lst [.str "odd ones"]) = H5 at s5 e5 ⊢
    refine ⟨_, rfl, a2, _, 0, .int t2, rfl, rfl, SqT.of (s5 _ _ g2), atI_nat (j := 0) rfl, _, rfl, a1, _, 0, .int t1, rfl, rfl, SqT.of (s5 _ _ g1), atI_nat (j := 0) rfl, rfl, _, rfl, ?_⟩
    dsimp only
    rw [decV, decN]
    cases hE : decide (t2 = t1) with
    | false =>
      rw [hE, Bool.false_and, Bool.false_and] at q
      refine iteF ?_
      refine .inr ⟨_, rfl, l5, _, [.str "odd ones"], rfl, rfl, e5, ?_, ?_, ?_, fun p6 np6 => ?_⟩
      · have := b2 false; omega
      · have := b2 false; omega
      · have := b2 false; show 1 * _ ≤ sizeLine; rw [sizeLine_eq]; omega
      rw [flat_b]
      have s6 : Same H5 (upd H5 p6 (.lst ((wd false "odd ones").map V.str))) := same_upd np6
      have e6 : upd H5 p6 (.lst ((wd false "odd ones").map V.str)) p6 = some (.lst ((wd false "odd ones").map V.str)) := upd_same
      generalize upd H5 p6 (HO.lst ((wd false "odd ones").map V.str)) = H6 at s6 e6 ⊢
      refine ⟨p3, p6, _, _, rfl, rfl, s6 _ _ (s5 _ _ e4), e6, by rw [List.length_map, List.length_map, sizeLine_eq]; have := wd_len false "odd ones"; omega, fun p7 np7 => ?_⟩
      rw [← List.map_append]
      have s7 : Same H6 (upd H6 p7 (.lst ((W ++ wd false "odd ones").map V.str))) := same_upd np7
      have e7 : upd H6 p7 (.lst ((W ++ wd false "odd ones").map V.str)) p7 = some (.lst ((W ++ wd false "odd ones").map V.str)) := upd_same
      generalize upd H6 p7 (HO.lst ((W ++ wd false "odd ones").map V.str)) = H7 at s7 e7 ⊢
      have hlen3 : (W ++ wd false "odd ones").length ≤ 3 := by
        rw [List.length_append]; have := wd_len false "odd ones"; omega
      generalize W ++ wd false "odd ones" = W3 at e7 q hlen3 ⊢
      have S7 : Same H H7 := S4.trans (s5.trans (s6.trans s7))
      have g1 := s7 _ _ (s6 _ _ (s5 _ _ g1))
      have g2 := s7 _ _ (s6 _ _ (s5 _ _ g2))
      refine ⟨_, rfl, by show 1 ≤ sizeLine; decide, fun l8 n8 => ?_⟩
      have s8 : Same H7 (upd H7 l8 (.lst [.str "doubled"])) := same_upd n8
      have e8 : upd H7 l8 (.lst [.str "doubled"]) l8 = some (.lst [.str "doubled"]) := upd_same
      generalize upd H7 l8 (HO.lst [.str "doubled"]) = H8 at s8 e8 ⊢
      refine ⟨_, rfl, a2, _, 0, .int t2, rfl, rfl, SqT.of (s8 _ _ g2), atI_nat (j := 0) rfl, _, rfl, a1, _, 0, .int t1, rfl, rfl, SqT.of (s8 _ _ g1), atI_nat (j := 0) rfl, rfl, _, rfl, ?_⟩
      dsimp only
      rw [decV, decN, hE]
      refine iteF ?_
      refine .inr ⟨_, rfl, l8, _, [.str "doubled"], rfl, rfl, e8, ?_, ?_, ?_, fun p9 np9 => ?_⟩
      · have := b2 false; omega
      · have := b2 false; omega
      · have := b2 false; show 1 * _ ≤ sizeLine; rw [sizeLine_eq]; omega
      rw [flat_b]
      have s9 : Same H8 (upd H8 p9 (.lst ((wd false "doubled").map V.str))) := same_upd np9
      have e9 : upd H8 p9 (.lst ((wd false "doubled").map V.str)) p9 = some (.lst ((wd false "doubled").map V.str)) := upd_same
      generalize upd H8 p9 (HO.lst ((wd false "doubled").map V.str)) = H9 at s9 e9 ⊢
      refine ⟨p7, p9, _, _, rfl, rfl, s9 _ _ (s8 _ _ e7), e9, by rw [List.length_map, List.length_map, sizeLine_eq]; have := wd_len false "doubled"; omega, fun p10 np10 => ?_⟩
      rw [← List.map_append]
      refine ⟨p10, _, rfl, .inl ⟨SqL.of upd_same, fun p11 np11 => ?_⟩⟩
      exact q _ p11 (S7.trans (s8.trans (s9.trans ((same_upd np10).trans (same_upd np11))))) upd_same
    | true =>
      rw [hE, Bool.true_and, Bool.true_and] at q
      refine iteT ⟨_, rfl, a2, _, 1, .int o2, rfl, rfl, SqT.of (s5 _ _ g2), atI_nat (j := 1) rfl, _, rfl, a1, _, 1, .int o1, rfl, rfl, SqT.of (s5 _ _ g1), atI_nat (j := 1) rfl, (o2 : Int), (o1 : Int), rfl, rfl, ?_⟩
      dsimp only
      rw [decL]
      refine .inr ⟨_, rfl, l5, _, [.str "odd ones"], rfl, rfl, e5, ?_, ?_, ?_, fun p6 np6 => ?_⟩
      · have := b2 (decide (o1 < o2)); omega
      · have := b2 (decide (o1 < o2)); omega
      · have := b2 (decide (o1 < o2)); show 1 * _ ≤ sizeLine; rw [sizeLine_eq]; omega
      rw [flat_b]
      have s6 : Same H5 (upd H5 p6 (.lst ((wd (decide (o1 < o2)) "odd ones").map V.str))) := same_upd np6
      have e6 : upd H5 p6 (.lst ((wd (decide (o1 < o2)) "odd ones").map V.str)) p6 = some (.lst ((wd (decide (o1 < o2)) "odd ones").map V.str)) := upd_same
      generalize upd H5 p6 (HO.lst ((wd (decide (o1 < o2)) "odd ones").map V.str)) = H6 at s6 e6 ⊢
      refine ⟨p3, p6, _, _, rfl, rfl, s6 _ _ (s5 _ _ e4), e6, by rw [List.length_map, List.length_map, sizeLine_eq]; have := wd_len (decide (o1 < o2)) "odd ones"; omega, fun p7 np7 => ?_⟩
      rw [← List.map_append]
      have s7 : Same H6 (upd H6 p7 (.lst ((W ++ wd (decide (o1 < o2)) "odd ones").map V.str))) := same_upd np7
      have e7 : upd H6 p7 (.lst ((W ++ wd (decide (o1 < o2)) "odd ones").map V.str)) p7 = some (.lst ((W ++ wd (decide (o1 < o2)) "odd ones").map V.str)) := upd_same
      generalize upd H6 p7 (HO.lst ((W ++ wd (decide (o1 < o2)) "odd ones").map V.str)) = H7 at s7 e7 ⊢
      have hlen3 : (W ++ wd (decide (o1 < o2)) "odd ones").length ≤ 3 := by
        rw [List.length_append]; have := wd_len (decide (o1 < o2)) "odd ones"; omega
      generalize W ++ wd (decide (o1 < o2)) "odd ones" = W3 at e7 q hlen3 ⊢
      have S7 : Same H H7 := S4.trans (s5.trans (s6.trans s7))
      have g1 := s7 _ _ (s6 _ _ (s5 _ _ g1))
      have g2 := s7 _ _ (s6 _ _ (s5 _ _ g2))
      refine ⟨_, rfl, by show 1 ≤ sizeLine; decide, fun l8 n8 => ?_⟩
      have s8 : Same H7 (upd H7 l8 (.lst [.str "doubled"])) := same_upd n8
      have e8 : upd H7 l8 (.lst [.str "doubled"]) l8 = some (.lst [.str "doubled"]) := upd_same
      generalize upd H7 l8 (HO.lst [.str "doubled"]) = H8 at s8 e8 ⊢
      refine ⟨_, rfl, a2, _, 0, .int t2, rfl, rfl, SqT.of (s8 _ _ g2), atI_nat (j := 0) rfl, _, rfl, a1, _, 0, .int t1, rfl, rfl, SqT.of (s8 _ _ g1), atI_nat (j := 0) rfl, rfl, _, rfl, ?_⟩
      dsimp only
      rw [decV, decN, hE]
      refine iteT ⟨_, rfl, a2, _, 1, .int o2, rfl, rfl, SqT.of (s8 _ _ g2), atI_nat (j := 1) rfl, _, rfl, a2, _, 2, .int m2, rfl, rfl, SqT.of (s8 _ _ g2), atI_nat (j := 2) rfl, rfl, ?_⟩
      dsimp only
      rw [decV, decN]
      refine .inr ⟨_, rfl, l8, _, [.str "doubled"], rfl, rfl, e8, ?_, ?_, ?_, fun p9 np9 => ?_⟩
      · have := b2 (decide (o2 = m2)); omega
      · have := b2 (decide (o2 = m2)); omega
      · have := b2 (decide (o2 = m2)); show 1 * _ ≤ sizeLine; rw [sizeLine_eq]; omega
      rw [flat_b]
      have s9 : Same H8 (upd H8 p9 (.lst ((wd (decide (o2 = m2)) "doubled").map V.str))) := same_upd np9
      have e9 : upd H8 p9 (.lst ((wd (decide (o2 = m2)) "doubled").map V.str)) p9 = some (.lst ((wd (decide (o2 = m2)) "doubled").map V.str)) := upd_same
      generalize upd H8 p9 (HO.lst ((wd (decide (o2 = m2)) "doubled").map V.str)) = H9 at s9 e9 ⊢
      refine ⟨p7, p9, _, _, rfl, rfl, s9 _ _ (s8 _ _ e7), e9, by rw [List.length_map, List.length_map, sizeLine_eq]; have := wd_len (decide (o2 = m2)) "doubled"; omega, fun p10 np10 => ?_⟩
      rw [← List.map_append]
      refine ⟨p10, _, rfl, .inl ⟨SqL.of upd_same, fun p11 np11 => ?_⟩⟩
      exact q _ p11 (S7.trans (s8.trans (s9.trans ((same_upd np10).trans (same_upd np11))))) upd_same
end
end K18

namespace K18
open PySem PySem.Spec PyProof.Rows L2 MG
abbrev sLaw : Stmt := topS 29
abbrev nLaw : List Str := ["_law_script", "_law_k", "_law_box_here", "_law_turn", "_law_total", "_law_rows", "_law_again", "_law_many", "_law_kind", "_law_amounts", "_law_one", "_law_row", "_law_other", "_law_last", "_law_due"]
theorem scLaw : FnScope ["_law_script", "_law_k", "_law_box_here", "_law_turn", "_law_total", "_law_rows", "_law_again", "_law_many", "_law_kind", "_law_amounts", "_law_one", "_law_row", "_law_other", "_law_last", "_law_due"] ["_law_script"] (defScope sLaw) := ⟨rfl, rfl, rfl, by decide +kernel, rfl, by decide +kernel, by decide +kernel⟩
theorem perm_sum {a b : List Int} (h : a.Perm b) : a.sum = b.sum := by
  induction h with
  | nil => rfl
  | cons x _ ih => rw [List.sum_cons, List.sum_cons, ih]
  | swap x y l => rw [List.sum_cons, List.sum_cons, List.sum_cons, List.sum_cons]; omega
  | trans _ _ i1 i2 => rw [i1, i2]
structure Bt (total t o m : Nat) (r : List Int) : Prop where
  len : r.length = 7
  sum : r.sum = total
  g : gl r = 2 ^ t
  few : (fewT t r).length = o
  cnt : (r.filter fun n => decide (0 < n)).length = m
  nn : ∀ n ∈ r, 0 ≤ n
theorem Bt.of {total many odd tw : Nat} {ns r : List Int} (h : Bu total many odd tw ns) (hm : many ≤ 7) (pm : r.Perm (ns ++ List.replicate (7 - many) 0)) : Bt total tw odd many r := by
  obtain ⟨h1, h2, h3, h4, h5⟩ := h
  have z0 : (List.replicate (7 - many) (0 : Int)).sum = 0 := by
    generalize 7 - many = k
    induction k with
    | zero => rfl
    | succ k ih => rw [List.replicate_succ, List.sum_cons, ih]; rfl
  refine ⟨?_, ?_, ?_, ?_, ?_, ?_⟩
  · rw [pm.length_eq, List.length_append, List.length_replicate]; omega
  · rw [perm_sum pm, List.sum_append, h2, z0]; omega
  · rw [gl_perm pm, gl_append, h3, gl_zeros, Nat.gcd_zero_right]
  · rw [fewT_perm pm]
    have : fewT tw (ns ++ List.replicate (7 - many) 0) = fewT tw ns ++ fewT tw (List.replicate (7 - many) 0) := List.filter_append _ _
    rw [this, fewT_zeros, List.append_nil]; exact h4
  · rw [(pm.filter _).length_eq, List.filter_append, List.filter_eq_self.mpr fun n hn => decide_eq_true (h5 n hn), List.length_append, h1]
    have : (List.replicate (7 - many) (0 : Int)).filter (fun n => decide (0 < n)) = [] := List.filter_eq_nil_iff.mpr fun n hn => by rw [List.eq_of_mem_replicate hn]; decide
    rw [this]; rfl
  · intro n hn
    rcases List.mem_append.mp (pm.mem_iff.mp hn) with h | h
    · have := h5 n h; omega
    · rw [List.eq_of_mem_replicate h]; omega
theorem Bt.v {total t o m : Nat} {r : List Int} (h : Bt total t o m r) : v2 (gl r) = t := by
  rw [h.g]
  exact v2_unique (m := 1) (by rw [Nat.mul_one]) rfl
theorem Bt.ms {total t o m : Nat} {r : List Int} (h : Bt total t o m r) : MG.ms r = 1 := by
  unfold MG.ms
  rw [h.v, h.g]
  have e : ((2 ^ t : Nat) : Int) = (2 : Int) ^ t := by rw [Int.natCast_pow]; rfl
  rw [e]
  exact Int.ediv_self (by have : (0 : Int) < 2 ^ t := Int.pow_pos (by decide); omega)
theorem Bt.od {total t o m : Nat} {r : List Int} (h : Bt total t o m r) : MG.od r = o := by
  unfold MG.od
  rw [h.v]
  exact h.few
theorem clauses_words {total t1 o1 m1 t2 o2 m2 : Nat} {r o : List Int} (a : Bt total t1 o1 m1 r) (b : Bt total t2 o2 m2 o) : MG.clausesOf r o = wordsT t1 o1 t2 o2 m2 r o := by
  unfold MG.clausesOf asked wordsT
  rw [a.sum, b.sum, a.ms, b.ms, a.v, b.v, a.od, b.od, hold_all, b.cnt]
  rw [decide_eq_false (show ¬ ((total : Int) ≠ total) from fun z => z rfl), decide_eq_false (show ¬ ((1 : Int) ≠ 1) from fun z => z rfl)]
  generalize hfn r o = c1
  generalize decide (t2 < t1) = c2
  generalize (decide (t2 = t1) && decide (o1 < o2)) = c3
  generalize (decide (t2 = t1) && decide (o2 = m2)) = c4
  cases c1 <;> cases c2 <;> cases c3 <;> cases c4 <;> rfl
theorem brk_words {total t1 o1 m1 t2 o2 m2 : Nat} {r o : List Int} (a : Bt total t1 o1 m1 r) (b : Bt total t2 o2 m2 o) (h : ¬ r = o) : brkT r o = wordsT t1 o1 t2 o2 m2 r o := by
  unfold brkT
  rw [if_neg h, if_neg (by rw [a.len, b.len]; exact fun z => z rfl), clauses_words a b]
theorem brk_lay (r o : List Int) : ∀ x ∈ brkT r o, PyData.canLay0 (.str x) = true := by
  intro x hx
  unfold brkT at hx
  split at hx
  · cases hx
  · split at hx
    · rw [List.mem_singleton.mp hx]; decide +kernel
    · unfold MG.clausesOf at hx
      obtain ⟨y, hy, rfl⟩ := List.mem_map.mp hx
      have hy' := (List.mem_filter.mp hy).1
      unfold asked at hy'
      simp only [List.mem_cons, List.not_mem_nil, or_false] at hy'
      rcases hy' with h | h | h | h | h | h
      · rw [h]; exact (show PyData.canLay0 (.str "sum") = true by decide +kernel)
      · rw [h]; exact (show PyData.canLay0 (.str "nothing") = true by decide +kernel)
      · rw [h]; exact (show PyData.canLay0 (.str "measure") = true by decide +kernel)
      · rw [h]; exact (show PyData.canLay0 (.str "twos") = true by decide +kernel)
      · rw [h]; exact (show PyData.canLay0 (.str "odd ones") = true by decide +kernel)
      · rw [h]; exact (show PyData.canLay0 (.str "doubled") = true by decide +kernel)
def Ent (H : Hp) (total : Nat) (e : Addr) : Prop := ∃ (ka ra : Addr) (t o m : Nat) (r : List Int), H e = some (.tup [.ref ka, .ref ra]) ∧ H ka = some (.tup [.int t, .int o, .int m]) ∧ H ra = some (.tup (r.map V.int)) ∧ 3 ≤ m ∧ Bt total t o m r
theorem tup_ne {H : Hp} {b e : Addr} {xs ys : List V} (h : H b = some (.lst xs)) (g : H e = some (.tup ys)) : e ≠ b := fun z => by
  rw [z, h] at g
  cases g
theorem Ent.sx {H H' : Hp} {total n : Nat} {b e : Addr} (h : Ent H total e) (hB : Box H b n) (x : SX b H H') : Ent H' total e := by
  obtain ⟨ka, ra, t, o, m, r, h1, h2, h3, h4, h5⟩ := h
  obtain ⟨o1, o2, o3, hb, _⟩ := hB
  exact ⟨ka, ra, t, o, m, r, x _ _ (tup_ne hb h1) h1, x _ _ (tup_ne hb h2) h2, x _ _ (tup_ne hb h3) h3, h4, h5⟩
theorem Ent.set {H : Hp} {total : Nat} {l e : Addr} {xs ys : List V} (h : Ent H total e) (hl : H l = some (.lst xs)) : Ent (upd H l (.lst ys)) total e := by
  obtain ⟨ka, ra, t, o, m, r, h1, h2, h3, h4, h5⟩ := h
  exact ⟨ka, ra, t, o, m, r, by rw [upd_ne (tup_ne hl h1)]; exact h1, by rw [upd_ne (tup_ne hl h2)]; exact h2, by rw [upd_ne (tup_ne hl h3)]; exact h3, h4, h5⟩
theorem row_of {H : Hp} {a : Addr} {total t o m : Nat} {r : List Int} (B : Bt total t o m r) (hm : 3 ≤ m) (ht : total ≤ 1000) (e : H a = some (.tup (r.map V.int))) : Row H a r := by
  refine ⟨e, fun n hn => ⟨B.nn n hn, ?_⟩, by rw [B.len]; decide, ?_⟩
  · have := mem_le_sum B.nn n hn
    rw [B.sum] at this
    omega
  · have hc := B.cnt
    cases hf : r.filter (fun n => decide (0 < n)) with
    | nil => rw [hf] at hc; simp at hc; omega
    | cons x xs =>
      have : x ∈ r.filter (fun n => decide (0 < n)) := by rw [hf]; exact List.mem_cons_self
      obtain ⟨h1, h2⟩ := List.mem_filter.mp this
      exact ⟨x, h1, of_decide_eq_true h2⟩
section
variable {P : Program} {w : World} {K : PySem.W.Frag} {mg : Str → Option Value} {base : Heap}
def spLaw (K : PySem.W.Frag) : Sp := fun vs H Q _ => ∃ (a : Addr) (ns : List Int), vs = [.ref a] ∧ SqL K H a (ns.map V.int) ∧ ns.length ≤ 63 ∧ ∀ H', Q (.bl true) H'
theorem ok_law {f fX fT fO fB fP fW fK : Addr} {fd fdX fdT fdO fdB fdP fdW fdK : FuncData} {k : Nat} (F : Fun K "law" "law" sLaw f fd)
    (FX : Fun K "_law_box" "_law_box" sBox fX fdX) (bX : Binds K fdX ["_law_script", "_law_k"] []) (gX : mg "_law_box" = some (.ref fX)) (GX : FnOk P w K mg base CX0 (k + 1) fX fdX ["_law_script", "_law_k"] (spBox K))
    (FT : Fun K "_law_take" "_law_take" sTake fT fdT) (bT : Binds K fdT ["_law_box_here", "_law_many"] []) (gT : mg "_law_take" = some (.ref fT))
    (FO : Fun K "_law_of" "_law_of" sOf fO fdO) (bO : Binds K fdO ["_law_box_here", "_law_some"] []) (gO : mg "_law_of" = some (.ref fO))
    (FB : Fun K "_law_built" "_law_built" sBuilt fB fdB) (bB : Binds K fdB ["_law_box_here", "_law_total", "_law_many", "_law_odd", "_law_twos_more"] []) (gB : mg "_law_built" = some (.ref fB)) (GB : FnOk P w K mg base CX0 (k + 2) fB fdB ["_law_box_here", "_law_total", "_law_many", "_law_odd", "_law_twos_more"] spBuilt)
    (FP : Fun K "_law_places" "_law_places" sPlaces fP fdP) (bP : Binds K fdP ["_law_box_here", "_law_amounts", "_law_nothing"] []) (gP : mg "_law_places" = some (.ref fP)) (GP : FnOk P w K mg base CX0 (k + 2) fP fdP ["_law_box_here", "_law_amounts", "_law_nothing"] spPlaces)
    (FW : Fun K "_law_words" "_law_words" sWords fW fdW) (bW : Binds K fdW ["_law_one", "_law_other", "_law_row", "_law_last"] []) (gW : mg "_law_words" = some (.ref fW)) (GW : FnOk P w K mg base CX0 (k + 1) fW fdW ["_law_one", "_law_other", "_law_row", "_law_last"] spWords)
    (FK : Fun K "broken" "broken" sBroken fK fdK) (bK : Binds K fdK ["row", "other"] []) (gK : mg "broken" = some (.ref fK)) (GK : FnOk P w K mg base CX0 (k + 6) fK fdK ["row", "other"] spBroken)
    (m_len : mg "len" = none) (m_min : mg "min" = none) (m_range : mg "range" = none) : FnG P w K mg base (k + 7) f fd ["_law_script"] (spLaw K) := by
  have GT : FnOk P w K mg base CX0 (k + 1) fT fdT ["_law_box_here", "_law_many"] spTake := ok_take FT
  have GO : FnOk P w K mg base CX0 (k + 2) fO fdO ["_law_box_here", "_law_some"] spOf := ok_of FO FT bT gT m_len
  refine okG F scLaw (fun vs H Q E h => ?_) (fun cdv A outer s H vs Q E gd hr h => ?_)
  · obtain ⟨a, ns, rfl, _⟩ := h
    rfl
  · obtain ⟨a, ns, rfl, hS, hlen, q⟩ := h
    have hr1 := hr.mono (show k + 1 ≤ k + 6 by omega)
    have hr2 := hr.mono (show k + 2 ≤ k + 6 by omega)
    refine ⟨_, pss_cons (ps_for PassesOwn.never rfl (pi_range1 (by rfl) m_range (pa_cons (pe_op op_add pe_int (pe_callB (call_min2 rfl) (by rfl) m_min (by decide +kernel) (pa_cons pe_int (pa_cons (pe_callB call_len_seq (by rfl) m_len PySem.boot_len (pa_cons (pv 0) pa_nil)) pa_nil)))) pa_nil)) (pg_name (i := 1) scLaw.nd rfl (.inl rfl)) (pss_cons (ps_set (i := 2) scLaw.nd rfl (.inl rfl) (pe_call GX hr1 (by rfl) gX FX.kp bX .nil pass0 (pa_cons (pv 0) (pa_cons (pv 1) pa_nil))))
      (pss_one (ps_for PassesOwn.never rfl (pi_range1 (by rfl) m_range (pa_cons pe_int pa_nil)) (pg_name (i := 3) scLaw.nd rfl (.inl rfl)) (pss_cons (ps_par (i := 4) (j := 5) rfl scLaw.nd rfl rfl (by decide) rfl rfl (pa_cons (pe_op op_add pe_int (pe_call GT hr1 (by rfl) gT FT.kp bT .nil pass0 (pa_cons (pv 2) (pa_cons pe_int pa_nil)))) (pa_cons (pe_lst pa_nil) pa_nil)) (by rfl))
      (pss_cons (ps_for PassesOwn.never rfl (pi_range1 (by rfl) m_range (pa_cons pe_int pa_nil)) (pg_name (i := 6) scLaw.nd rfl (.inl rfl)) (pss_cons (ps_set (i := 7) scLaw.nd rfl (.inl rfl) (pe_op op_add pe_int (pe_call GT hr1 (by rfl) gT FT.kp bT .nil pass0 (pa_cons (pv 2) (pa_cons pe_int pa_nil)))))
      (pss_cons (ps_set (i := 8) scLaw.nd rfl (.inl rfl) (pe_tup (pa_cons (pe_call GO hr2 (by rfl) gO FO.kp bO .nil pass0 (pa_cons (pv 2) (pa_cons (pe_lst (pa_cons pe_int (pa_cons pe_int (pa_cons pe_int (pa_cons pe_int pa_nil))))) pa_nil))) (pa_cons (pe_op op_add pe_int (pe_call GT hr1 (by rfl) gT FT.kp bT .nil pass0 (pa_cons (pv 2) (pa_cons (pv 7) pa_nil)))) (pa_cons (pv 7) pa_nil)))))
      (pss_one (ps_for PassesOwn.never rfl (pi_list (pe_call GB hr2 (by rfl) gB FB.kp bB .nil pass0 (pa_cons (pv 2) (pa_cons (pv 4) (pa_cons (pv 7) (pa_cons (pe_ix ix_tup (pv 8) pe_int (fun _ _ => rfl)) (pa_cons (pe_ix ix_tup (pv 8) pe_int (fun _ _ => rfl)) pa_nil))))))) (pg_name (i := 9) scLaw.nd rfl (.inl rfl)) (pss_one (ps_expr (pe_bm PySem.F.plainAttrs_list PySem.F.slot_list_append PySem.F.type_list_append mt_append (pv 5) (pa_cons (pe_tup (pa_cons (pv 8) (pa_cons (pe_call GP hr2 (by rfl) gP FP.kp bP .nil pass0 (pa_cons (pv 2) (pa_cons (pv 9) (pa_cons (pe_op op_sub pe_int (pv 7)) pa_nil)))) pa_nil))) pa_nil)))))))))
      (pss_one (ps_for PassesOwn.never rfl (pi_list (pv 5)) (pg_tup rfl (pgs_cons (pg_name (i := 10) scLaw.nd rfl (.inl rfl)) (pgs_cons (pg_name (i := 11) scLaw.nd rfl (.inl rfl)) pgs_nil))) (pss_one (ps_for PassesOwn.never rfl (pi_list (pv 5)) (pg_tup rfl (pgs_cons (pg_name (i := 12) scLaw.nd rfl (.inl rfl)) (pgs_cons (pg_name (i := 13) scLaw.nd rfl (.inl rfl)) pgs_nil))) (pss_cons (ps_set (i := 14) scLaw.nd rfl (.inl rfl) (pe_ifExp (pt_cmpR (op_neD hr.units) (pv 11) (pv 13) (nomark _)) (pe_call GW hr1 (by rfl) gW FW.kp bW .nil pass0 (pa_cons (pv 10) (pa_cons (pv 12) (pa_cons (pv 11) (pa_cons (pv 13) pa_nil))))) (pe_tup pa_nil)))
      (pss_one (ps_if (pt_cmpR (op_neD hr.units) (pe_call GK hr (by rfl) gK FK.kp bK .nil pass0 (pa_cons (pv 11) (pa_cons (pv 13) pa_nil))) (pv 14) (nomark _)) (pss_one (ps_ret pe_bl)) pss_nil)))))))))))))
      (pss_one (ps_ret pe_bl)), ?_⟩
    refine ⟨.ref a, rfl, a, _, rfl, .inl hS, 3, _, rfl, 1, _, rfl, rfl, _, rfl, ?_, ?_, ?_⟩
    · rw [List.length_map]; split <;> omega
    · rw [List.length_map]; split <;> omega
    refine for_range (lo := 0) (n := _) (fun _ σ H' => ∃ y1 y2 y3 y4 y5 y6 y7 y8 y9 y10 y11 y12 y13 y14, σ = [some (.ref a), y1, y2, y3, y4, y5, y6, y7, y8, y9, y10, y11, y12, y13, y14] ∧ Same H H') ?_ ?_ ?_
    · exact ⟨_, _, _, _, _, _, _, _, _, _, _, _, _, _, rfl, Same.refl H⟩
    rotate_left
    · rintro σ H' ⟨y1, y2, y3, y4, y5, y6, y7, y8, y9, y10, y11, y12, y13, y14, rfl, sm⟩
      exact q H'
    rintro j σ G0 hj ⟨y1, y2, y3, y4, y5, y6, y7, y8, y9, y10, y11, y12, y13, y14, rfl, s0⟩
    have hj4 : j < 4 := by
      refine Nat.lt_of_lt_of_le hj ?_
      rw [List.length_map]; split <;> omega
    refine ⟨.ref a, rfl, _, rfl, a, ns, 0 + (j : Int), rfl, s0.seq hS, by omega, by omega, fun b H1 nb s1 hB k1 => ?_⟩
    have keep : ∀ {G : Hp}, SX b H1 G → Same H G := fun x c o hc => x c o (ne_of_none (s0 _ _ hc) nb) (s1 _ _ (s0 _ _ hc))
    refine ⟨15, rfl, by decide, by decide, ?_⟩
    refine for_range (lo := 0) (n := 15) (fun i σ H' => ∃ y3 y4 y5 y6 y7 y8 y9 y10 y11 y12 y13 y14, σ = [some (.ref a), some (.int (0 + (j : Int))), some (.ref b), y3, y4, y5, y6, y7, y8, y9, y10, y11, y12, y13, y14] ∧ SX b H1 H' ∧ Box H' b (300 * i)) ?_ ?_ ?_
    · exact ⟨_, _, _, _, _, _, _, _, _, _, _, _, rfl, .refl b H1, hB⟩
    rotate_left
    · rintro σ H3 ⟨y3, y4, y5, y6, y7, y8, y9, y10, y11, y12, y13, y14, rfl, x3, hB3⟩
      exact ⟨_, _, _, _, _, _, _, _, _, _, _, _, _, _, rfl, keep x3⟩
    rintro i σ H2 hi ⟨y3, y4, y5, y6, y7, y8, y9, y10, y11, y12, y13, y14, rfl, x2, hB2⟩
    refine ⟨_, rfl, b, 200, 300 * i, rfl, hB2, by omega, by decide, by decide, fun rt H3 t0 t1 hB3 k3 => ⟨28, rt, rfl, rfl, by show 0 ≤ sizeLine; decide, fun lr nlr => ⟨_, _, rfl, ?_⟩⟩⟩
    obtain ⟨total, ht⟩ : ∃ n : Nat, 28 + rt = (n : Int) := ⟨(28 + rt).toNat, by omega⟩
    have htot : 28 ≤ total ∧ total ≤ 300 := by omega
    dsimp only
    rw [ht]
    have x3 : SX b H1 H3 := x2.trans (.of_eq k3)
    obtain ⟨b3, z3⟩ := hB3.get
    have nbl : b ≠ lr := ne_of_none z3 nlr
    have f1 : H1 lr = none := x3.free hB3 nlr
    refine ⟨3, rfl, by decide, by decide, ?_⟩
    refine for_range (lo := 0) (n := 3) (fun j2 σ H' => ∃ y6 y7 y8 y9, ∃ es : List Addr, σ = [some (.ref a), some (.int (0 + (j : Int))), some (.ref b), some (.int (0 + (i : Int))), some (.int total), some (.ref lr), y6, y7, y8, y9, y10, y11, y12, y13, y14] ∧ H' lr = some (.lst (es.map V.ref)) ∧ es.length ≤ j2 ∧ (∀ e ∈ es, Ent H' total e) ∧ SX b H1 H' ∧ Box H' b (300 * i + 1 + 80 * j2)) ?_ ?_ ?_
    · exact ⟨_, _, _, _, [], rfl, upd_same, Nat.le_refl _, fun e he => absurd he List.not_mem_nil, x3.new nlr, hB3.new nlr⟩
    · rintro j2 σ H4 hj2 ⟨y6, y7, y8, y9, es, rfl, e4, hle, hE, x4, hB4⟩
      refine ⟨_, rfl, b, 5, _, rfl, hB4, by omega, by decide, by decide, fun rm H5 m0 m1 hB5 k5 => ⟨3, rm, rfl, rfl, ?_⟩⟩
      obtain ⟨many, hm⟩ : ∃ n : Nat, 3 + rm = (n : Int) := ⟨(3 + rm).toNat, by omega⟩
      have hmany : 3 ≤ many ∧ many ≤ 7 := by omega
      dsimp only
      rw [hm]
      refine ⟨_, rfl, by show 4 ≤ sizeLine; decide, fun l6 n6 => ?_⟩
      obtain ⟨b5, z5⟩ := hB5.get
      refine ⟨b, l6, _, _, rfl, hB5.new n6, by omega, upd_same, ne_of_none z5 n6, by show 1 ≤ 4; decide, by show 4 ≤ 1000; decide, fun tv H6 htv hB6 k6 => ?_⟩
      obtain ⟨tw, rfl, htw⟩ : ∃ v : Nat, tv = .int v ∧ v ≤ 2 := by
        simp only [List.mem_cons, List.not_mem_nil, or_false] at htv
        rcases htv with h | h | h | h
        · exact ⟨0, h, by decide⟩
        · exact ⟨0, h, by decide⟩
        · exact ⟨1, h, by decide⟩
        · exact ⟨2, h, by decide⟩
      refine ⟨_, rfl, _, rfl, b, (many : Int), _, rfl, hB6, by omega, by omega, by omega, fun ro H7 o0 o1 hB7 k7 => ⟨1, ro, rfl, rfl, _, rfl, by show 3 ≤ sizeLine; decide, fun kt nkt => ?_⟩⟩
      obtain ⟨odd, ho⟩ : ∃ n : Nat, 1 + ro = (n : Int) := ⟨(1 + ro).toNat, by omega⟩
      have hodd : 1 ≤ odd ∧ odd ≤ many := by omega
      dsimp only
      rw [ho]
      have y7' : SX b H4 H7 := (SX.of_eq k5).trans (((SX.refl b H5).new n6).trans ((SX.of_eq k6).trans (.of_eq k7)))
      have x8 : SX b H4 (upd H7 kt (.tup [.int tw, .int odd, .int many])) := y7'.new nkt
      have e8 : upd H7 kt (.tup [.int tw, .int odd, .int many]) kt = some (.tup [.int tw, .int odd, .int many]) := upd_same
      have hB8 := hB7.new nkt (o := .tup [.int tw, .int odd, .int many])
      generalize upd H7 kt (HO.tup [.int tw, .int odd, .int many]) = H8 at x8 e8 hB8 ⊢
      have el8 : H8 lr = some (.lst (es.map V.ref)) := x8 _ _ nbl.symm e4
      have hE8 : ∀ e ∈ es, Ent H8 total e := fun e he => (hE e he).sx hB4 x8
      refine ⟨_, rfl, _, rfl, _, rfl, _, rfl, kt, _, 1, .int odd, rfl, rfl, SqT.of e8, atI_nat (j := 1) rfl, _, rfl, kt, _, 0, .int tw, rfl, rfl, SqT.of e8, atI_nat (j := 0) rfl, b, total, many, odd, tw, _, rfl, hB8, by omega, by omega, by omega, by omega, by omega, by omega, by omega, htw, fun p L H9 np hB9 x9 ep hL => ?_⟩
      refine ⟨p, rfl, ⟨_, SqL.of ep⟩, ?_⟩
      have nkb : kt ≠ b := by
        obtain ⟨_, _, _, zb, _⟩ := hB8
        exact tup_ne zb e8
      have e9 : H9 lr = some (.lst (es.map V.ref)) := x9 _ _ nbl.symm el8
      have ek9 : H9 kt = some (.tup [.int tw, .int odd, .int many]) := x9 _ _ nkb e8
      have hE9 : ∀ e ∈ es, Ent H9 total e := fun e he => (hE8 e he).sx hB8 x9
      have xx9 : SX b H1 H9 := x4.trans (x8.trans x9)
      rcases hL with rfl | ⟨qa, nsq, rfl, nqa, eq, hBu⟩
      · refine for_list (K := K) (a := p) (xs := ([] : List Addr).map V.ref) (fun i σ' H' => σ' = _ ∧ H' = H9) ⟨rfl, rfl⟩ ?_ ?_ ?_
        · rintro i σ' H' _ ⟨_, rfl⟩
          exact SqL.of ep
        · rintro i x σ' H' hx
          cases hx
        · rintro σ' H' ⟨rfl, rfl⟩
          exact ⟨_, _, _, _, es, rfl, e9, by omega, hE9, xx9, hB9.le (by omega)⟩
      · refine for_list (K := K) (a := p) (xs := [qa].map V.ref) (fun i3 σ' H' => (i3 = 0 ∧ σ' = _ ∧ H' = H9) ∨ (i3 = 1 ∧ ∃ y9, ∃ es2 : List Addr, σ' = [some (.ref a), some (.int (0 + (j : Int))), some (.ref b), some (.int (0 + (i : Int))), some (.int total), some (.ref lr), some (.int (0 + (j2 : Int))), some (.int many), some (.ref kt), y9, y10, y11, y12, y13, y14] ∧ H' p = some (.lst ([qa].map V.ref)) ∧ H' lr = some (.lst (es2.map V.ref)) ∧ es2.length ≤ j2 + 1 ∧ (∀ e ∈ es2, Ent H' total e) ∧ SX b H1 H' ∧ Box H' b (300 * i + 1 + 80 * (j2 + 1)))) (.inl ⟨rfl, rfl, rfl⟩) ?_ ?_ ?_
        · rintro i σ' H' _ (⟨_, _, rfl⟩ | ⟨_, y9, es2, _, hp, _⟩)
          · exact SqL.of ep
          · exact SqL.of hp
        · rintro i3 x σ' H' hx (⟨rfl, rfl, rfl⟩ | ⟨rfl, _⟩)
          · have hx' : x = .ref qa := by cases hx; rfl
            subst hx'
            obtain ⟨b9, z9⟩ := hB9.get
            refine ⟨_, rfl, .inl ⟨rfl, _, SqL.of e9⟩, _, rfl, _, rfl, _, rfl, _, rfl, 7, (many : Int), rfl, rfl, b, qa, nsq, 7 - (many : Int), _, rfl, hB9, by omega, .inl eq, by omega, by omega, by rw [hBu.1]; omega, fun pr H10 ms npr pm hB10 x10 epr => ⟨by show 2 ≤ sizeLine; decide, fun te nte => ?_⟩⟩
            have e10 : H10 lr = some (.lst (es.map V.ref)) := x10 _ _ nbl.symm e9
            refine ⟨lr, _, _, rfl, rfl, same_upd nte _ _ e10, ?_, ?_⟩
            · rw [List.length_map]
              exact small1000 (by omega)
            have npb : p ≠ lr := fun z => by
              rw [z, el8] at np
              cases np
            have npb2 : p ≠ b := fun z => by
              rw [z] at np
              exact hB8.some np
            rw [show (7 - (many : Int)).toNat = 7 - many by omega] at pm
            have B' := Bt.of hBu (by omega) pm
            refine .inr ⟨rfl, _, es ++ [te], rfl, ?_, ?_, ?_, ?_, ?_, ?_⟩
            · rw [upd_ne npb]
              exact same_upd nte _ _ (x10 _ _ npb2 ep)
            · rw [upd_same, List.map_append]; rfl
            · rw [List.length_append]; show es.length + 1 ≤ _; omega
            · intro e he
              rcases List.mem_append.mp he with h | h
              · exact (((hE9 e h).sx hB9 x10).sx hB10 (.of_same (same_upd nte))).set (same_upd nte _ _ e10)
              · rw [List.mem_singleton.mp h]
                exact Ent.set ⟨kt, pr, tw, odd, many, ms, upd_same, same_upd nte _ _ (x10 _ _ nkb ek9), same_upd nte _ _ epr, by omega, B'⟩ (same_upd nte _ _ e10)
            · exact ((xx9.trans x10).new nte).set f1
            · exact ((hB10.new nte).set nbl).le (by omega)
          · cases hx
        · rintro σ' H' (⟨h0, _⟩ | ⟨_, y9, es2, rfl, hp, el, hl2, hE2, xx, hBx⟩)
          · cases h0
          · exact ⟨_, _, _, _, es2, rfl, el, hl2, hE2, xx, hBx⟩
    rintro σ G6 ⟨y6, y7, y8, y9, es, rfl, e6, hle, hE, x6, hB6⟩
    have stay : ∀ {G : Hp}, Same G6 G → SX b H1 G ∧ Box G b (300 * (i + 1)) := fun sm => by
      obtain ⟨o, z⟩ := hB6.get
      exact ⟨x6.trans (.of_same sm), (hB6.at (by rw [sm _ _ z, z])).le (by omega)⟩
    refine ⟨.ref lr, rfl, lr, rfl, ⟨_, SqL.of e6⟩, ?_⟩
    refine for_list (K := K) (a := lr) (xs := es.map V.ref) (fun _ σ' H' => ∃ y10 y11 y12 y13 y14, σ' = [some (.ref a), some (.int (0 + (j : Int))), some (.ref b), some (.int (0 + (i : Int))), some (.int total), some (.ref lr), y6, y7, y8, y9, y10, y11, y12, y13, y14] ∧ Same G6 H') ⟨_, _, _, _, _, rfl, Same.refl _⟩ ?_ ?_ ?_
    · rintro i2 σ' H' _ ⟨y10, y11, y12, y13, y14, _, sm⟩
      exact SqL.of (sm _ _ e6)
    rotate_left
    · rintro σ' H' ⟨y10, y11, y12, y13, y14, rfl, sm⟩
      have := stay sm
      exact ⟨_, _, _, _, _, _, _, _, _, _, _, _, rfl, this.1, this.2⟩
    rintro i2 x σ' G7 hx ⟨y10, y11, y12, y13, y14, rfl, s7⟩
    rw [List.getElem?_map] at hx
    obtain ⟨en1, hen1, rfl⟩ := Option.map_eq_some_iff.mp hx
    obtain ⟨ka1, ra1, t1, o1, m1, r1, h11, h12, h13, hm1, B1⟩ := hE en1 (List.mem_of_getElem? hen1)
    refine ⟨en1, _, rfl, SqT.of (s7 _ _ h11), rfl, .ref ka1, [.ref ra1], rfl, .ref ra1, [], rfl, rfl, ?_⟩
    refine ⟨.ref lr, rfl, lr, rfl, ⟨_, SqL.of (s7 _ _ e6)⟩, ?_⟩
    refine for_list (K := K) (a := lr) (xs := es.map V.ref) (fun _ σ' H' => ∃ y12 y13 y14, σ' = [some (.ref a), some (.int (0 + (j : Int))), some (.ref b), some (.int (0 + (i : Int))), some (.int total), some (.ref lr), y6, y7, y8, y9, some (.ref ka1), some (.ref ra1), y12, y13, y14] ∧ Same G6 H') ⟨_, _, _, rfl, s7⟩ ?_ ?_ ?_
    · rintro i4 σ' H' _ ⟨y12, y13, y14, _, sm⟩
      exact SqL.of (sm _ _ e6)
    rotate_left
    · rintro σ' H' ⟨y12, y13, y14, rfl, sm⟩
      exact ⟨_, _, _, _, _, rfl, sm⟩
    rintro i4 x σ' G8 hx ⟨y12, y13, y14, rfl, s8⟩
    rw [List.getElem?_map] at hx
    obtain ⟨en2, hen2, rfl⟩ := Option.map_eq_some_iff.mp hx
    obtain ⟨ka2, ra2, t2, o2, m2, r2, h21, h22, h23, hm2, B2⟩ := hE en2 (List.mem_of_getElem? hen2)
    refine ⟨en2, _, rfl, SqT.of (s8 _ _ h21), rfl, .ref ka2, [.ref ra2], rfl, .ref ra2, [], rfl, rfl, ?_⟩
    refine ⟨_, rfl, _, rfl, _, _, .tup (SqT.of (s8 _ _ h13)) (dpIntsG r1), .tup (SqT.of (s8 _ _ h23)) (dpIntsG r2), shapedT_ints r1, shapedT_ints r2, _, rfl, ?_⟩
    rw [eqv_rows, notD]
    refine ite2 (fun hne => ?_) (fun hne => ?_)
    · have hne' := of_decide_eq_true hne
      refine ⟨_, rfl, _, rfl, _, rfl, _, rfl, ka1, ka2, ra1, ra2, t1, o1, m1, t2, o2, m2, r1, r2, rfl, s8 _ _ h12, s8 _ _ h22, s8 _ _ h13, s8 _ _ h23, by rw [B1.len, B2.len], by rw [B1.len]; decide, fun G9 pd s9' ePd => ?_⟩
      rw [← brk_words B1 B2 hne'] at ePd
      have SG8 := s8.trans s9'
      refine ⟨_, rfl, _, rfl, ra1, ra2, r1, r2, rfl, row_of B1 hm1 (by omega) (SG8 _ _ h13), row_of B2 hm2 (by omega) (SG8 _ _ h23), by rw [hold_all, B1.cnt]; exact hm1, fun H9 pb s9 e9 => ?_⟩
      refine ⟨.ref pd, rfl, _, _, .tup (SqT.of e9) (dpStrsG _), .tup (SqT.of (s9 _ _ ePd)) (dpStrsG _), shapedT_strs _ (brk_lay r1 r2), shapedT_strs _ (brk_lay r1 r2), _, rfl, ?_⟩
      rw [eqv_strs, decide_eq_true rfl]
      exact iteF ⟨_, _, _, rfl, SG8.trans s9⟩
    · have he' : r1 = r2 := Decidable.of_not_not fun z => hne (decide_eq_true z)
      refine ⟨by show 0 ≤ sizeLine; decide, fun pd npd => ?_⟩
      have ePd : upd G8 pd (.tup []) pd = some (.tup ((brkT r1 r2).map V.str)) := by
        rw [upd_same]
        unfold brkT
        rw [if_pos he']
        rfl
      have SG8 := s8.trans (same_upd npd (o := .tup []))
      generalize upd G8 pd (HO.tup []) = G9 at ePd SG8 ⊢
      refine ⟨_, rfl, _, rfl, ra1, ra2, r1, r2, rfl, row_of B1 hm1 (by omega) (SG8 _ _ h13), row_of B2 hm2 (by omega) (SG8 _ _ h23), by rw [hold_all, B1.cnt]; exact hm1, fun H9 pb s9 e9 => ?_⟩
      refine ⟨.ref pd, rfl, _, _, .tup (SqT.of e9) (dpStrsG _), .tup (SqT.of (s9 _ _ ePd)) (dpStrsG _), shapedT_strs _ (brk_lay r1 r2), shapedT_strs _ (brk_lay r1 r2), _, rfl, ?_⟩
      rw [eqv_strs, decide_eq_true rfl]
      exact iteF ⟨_, _, _, rfl, SG8.trans s9⟩
end
end K18

namespace K18
open PySem PySem.Spec PyProof.Rows L2 MG
theorem all_mk {l : PySem.W.OpenLaw} {w : World} {K : PySem.W.Frag} {h : Heap} {mg : Str → Option Value} {fa : Addr} (X : K.In h) (G : h.Ns mainGlobals mg) (hfa : mg "law" = some (.ref fa))
    {fTwosIn : Addr} {odTwosIn anTwosIn : Option Addr} {slTwosIn : Array (Option Value)} {ocTwosIn kVTwosIn dcTwosIn pmTwosIn cdTwosIn ctTwosIn : Value}
    (aTwosIn : PySem.W.nsIn K mainGlobals "twos_in" = some (some (.ref fTwosIn))) (lTwosIn : K.lookup fTwosIn = some ⟨ocTwosIn, odTwosIn, .func (PySem.W.fnOf "twos_in" "twos_in" (defArgs sTwosIn) (defBody sTwosIn) (defScope sTwosIn) .none kVTwosIn dcTwosIn pmTwosIn anTwosIn cdTwosIn ctTwosIn), slTwosIn⟩) (cTwosIn : PySem.W.codeIn K cdTwosIn "twos_in" = true) (kTwosIn : PySem.W.keepIn K (.ref fTwosIn) = true)
    {fOddPart : Addr} {odOddPart anOddPart : Option Addr} {slOddPart : Array (Option Value)} {ocOddPart kVOddPart dcOddPart pmOddPart cdOddPart ctOddPart : Value}
    (aOddPart : PySem.W.nsIn K mainGlobals "odd_part" = some (some (.ref fOddPart))) (lOddPart : K.lookup fOddPart = some ⟨ocOddPart, odOddPart, .func (PySem.W.fnOf "odd_part" "odd_part" (defArgs sOddPart) (defBody sOddPart) (defScope sOddPart) .none kVOddPart dcOddPart pmOddPart anOddPart cdOddPart ctOddPart), slOddPart⟩) (cOddPart : PySem.W.codeIn K cdOddPart "odd_part" = true) (kOddPart : PySem.W.keepIn K (.ref fOddPart) = true)
    {fCommon : Addr} {odCommon anCommon : Option Addr} {slCommon : Array (Option Value)} {ocCommon kVCommon dcCommon pmCommon cdCommon ctCommon : Value}
    (aCommon : PySem.W.nsIn K mainGlobals "common_part" = some (some (.ref fCommon))) (lCommon : K.lookup fCommon = some ⟨ocCommon, odCommon, .func (PySem.W.fnOf "common_part" "common_part" (defArgs sCommon) (defBody sCommon) (defScope sCommon) .none kVCommon dcCommon pmCommon anCommon cdCommon ctCommon), slCommon⟩) (cCommon : PySem.W.codeIn K cdCommon "common_part" = true) (kCommon : PySem.W.keepIn K (.ref fCommon) = true)
    {fUnit : Addr} {odUnit anUnit : Option Addr} {slUnit : Array (Option Value)} {ocUnit kVUnit dcUnit pmUnit cdUnit ctUnit : Value}
    (aUnit : PySem.W.nsIn K mainGlobals "unit" = some (some (.ref fUnit))) (lUnit : K.lookup fUnit = some ⟨ocUnit, odUnit, .func (PySem.W.fnOf "unit" "unit" (defArgs sUnit) (defBody sUnit) (defScope sUnit) .none kVUnit dcUnit pmUnit anUnit cdUnit ctUnit), slUnit⟩) (cUnit : PySem.W.codeIn K cdUnit "unit" = true) (kUnit : PySem.W.keepIn K (.ref fUnit) = true)
    {fMeasure : Addr} {odMeasure anMeasure : Option Addr} {slMeasure : Array (Option Value)} {ocMeasure kVMeasure dcMeasure pmMeasure cdMeasure ctMeasure : Value}
    (aMeasure : PySem.W.nsIn K mainGlobals "measure" = some (some (.ref fMeasure))) (lMeasure : K.lookup fMeasure = some ⟨ocMeasure, odMeasure, .func (PySem.W.fnOf "measure" "measure" (defArgs sMeasure) (defBody sMeasure) (defScope sMeasure) .none kVMeasure dcMeasure pmMeasure anMeasure cdMeasure ctMeasure), slMeasure⟩) (cMeasure : PySem.W.codeIn K cdMeasure "measure" = true) (kMeasure : PySem.W.keepIn K (.ref fMeasure) = true)
    {fTwos : Addr} {odTwos anTwos : Option Addr} {slTwos : Array (Option Value)} {ocTwos kVTwos dcTwos pmTwos cdTwos ctTwos : Value}
    (aTwos : PySem.W.nsIn K mainGlobals "twos" = some (some (.ref fTwos))) (lTwos : K.lookup fTwos = some ⟨ocTwos, odTwos, .func (PySem.W.fnOf "twos" "twos" (defArgs sTwos) (defBody sTwos) (defScope sTwos) .none kVTwos dcTwos pmTwos anTwos cdTwos ctTwos), slTwos⟩) (cTwos : PySem.W.codeIn K cdTwos "twos" = true) (kTwos : PySem.W.keepIn K (.ref fTwos) = true)
    {fOddOnes : Addr} {odOddOnes anOddOnes : Option Addr} {slOddOnes : Array (Option Value)} {ocOddOnes kVOddOnes dcOddOnes pmOddOnes cdOddOnes ctOddOnes : Value}
    (aOddOnes : PySem.W.nsIn K mainGlobals "odd_ones" = some (some (.ref fOddOnes))) (lOddOnes : K.lookup fOddOnes = some ⟨ocOddOnes, odOddOnes, .func (PySem.W.fnOf "odd_ones" "odd_ones" (defArgs sOddOnes) (defBody sOddOnes) (defScope sOddOnes) .none kVOddOnes dcOddOnes pmOddOnes anOddOnes cdOddOnes ctOddOnes), slOddOnes⟩) (cOddOnes : PySem.W.codeIn K cdOddOnes "odd_ones" = true) (kOddOnes : PySem.W.keepIn K (.ref fOddOnes) = true)
    {fHol : Addr} {odHol anHol : Option Addr} {slHol : Array (Option Value)} {ocHol kVHol dcHol pmHol cdHol ctHol : Value}
    (aHol : PySem.W.nsIn K mainGlobals "holders" = some (some (.ref fHol))) (lHol : K.lookup fHol = some ⟨ocHol, odHol, .func (PySem.W.fnOf "holders" "holders" (defArgs sHolders) (defBody sHolders) (defScope sHolders) .none kVHol dcHol pmHol anHol cdHol ctHol), slHol⟩) (cHol : PySem.W.codeIn K cdHol "holders" = true) (kHol : PySem.W.keepIn K (.ref fHol) = true)
    {fHfn : Addr} {odHfn anHfn : Option Addr} {slHfn : Array (Option Value)} {ocHfn kVHfn dcHfn pmHfn cdHfn ctHfn : Value}
    (aHfn : PySem.W.nsIn K mainGlobals "has_from_nothing" = some (some (.ref fHfn))) (lHfn : K.lookup fHfn = some ⟨ocHfn, odHfn, .func (PySem.W.fnOf "has_from_nothing" "has_from_nothing" (defArgs sHfn) (defBody sHfn) (defScope sHfn) .none kVHfn dcHfn pmHfn anHfn cdHfn ctHfn), slHfn⟩) (cHfn : PySem.W.codeIn K cdHfn "has_from_nothing" = true) (kHfn : PySem.W.keepIn K (.ref fHfn) = true)
    {fAsked : Addr} {odAsked anAsked : Option Addr} {slAsked : Array (Option Value)} {ocAsked kVAsked dcAsked pmAsked cdAsked ctAsked : Value}
    (aAsked : PySem.W.nsIn K mainGlobals "asked_of_any" = some (some (.ref fAsked))) (lAsked : K.lookup fAsked = some ⟨ocAsked, odAsked, .func (PySem.W.fnOf "asked_of_any" "asked_of_any" (defArgs sAsked) (defBody sAsked) (defScope sAsked) .none kVAsked dcAsked pmAsked anAsked cdAsked ctAsked), slAsked⟩) (cAsked : PySem.W.codeIn K cdAsked "asked_of_any" = true) (kAsked : PySem.W.keepIn K (.ref fAsked) = true)
    {fBroken : Addr} {odBroken anBroken : Option Addr} {slBroken : Array (Option Value)} {ocBroken kVBroken dcBroken pmBroken cdBroken ctBroken : Value}
    (aBroken : PySem.W.nsIn K mainGlobals "broken" = some (some (.ref fBroken))) (lBroken : K.lookup fBroken = some ⟨ocBroken, odBroken, .func (PySem.W.fnOf "broken" "broken" (defArgs sBroken) (defBody sBroken) (defScope sBroken) .none kVBroken dcBroken pmBroken anBroken cdBroken ctBroken), slBroken⟩) (cBroken : PySem.W.codeIn K cdBroken "broken" = true) (kBroken : PySem.W.keepIn K (.ref fBroken) = true)
    {fBox : Addr} {odBox anBox : Option Addr} {slBox : Array (Option Value)} {ocBox kVBox dcBox pmBox cdBox ctBox : Value}
    (aBox : PySem.W.nsIn K mainGlobals "_law_box" = some (some (.ref fBox))) (lBox : K.lookup fBox = some ⟨ocBox, odBox, .func (PySem.W.fnOf "_law_box" "_law_box" (defArgs sBox) (defBody sBox) (defScope sBox) .none kVBox dcBox pmBox anBox cdBox ctBox), slBox⟩) (cBox : PySem.W.codeIn K cdBox "_law_box" = true) (kBox : PySem.W.keepIn K (.ref fBox) = true)
    {fTake : Addr} {odTake anTake : Option Addr} {slTake : Array (Option Value)} {ocTake kVTake dcTake pmTake cdTake ctTake : Value}
    (aTake : PySem.W.nsIn K mainGlobals "_law_take" = some (some (.ref fTake))) (lTake : K.lookup fTake = some ⟨ocTake, odTake, .func (PySem.W.fnOf "_law_take" "_law_take" (defArgs sTake) (defBody sTake) (defScope sTake) .none kVTake dcTake pmTake anTake cdTake ctTake), slTake⟩) (cTake : PySem.W.codeIn K cdTake "_law_take" = true) (kTake : PySem.W.keepIn K (.ref fTake) = true)
    {fOf : Addr} {odOf anOf : Option Addr} {slOf : Array (Option Value)} {ocOf kVOf dcOf pmOf cdOf ctOf : Value}
    (aOf : PySem.W.nsIn K mainGlobals "_law_of" = some (some (.ref fOf))) (lOf : K.lookup fOf = some ⟨ocOf, odOf, .func (PySem.W.fnOf "_law_of" "_law_of" (defArgs sOf) (defBody sOf) (defScope sOf) .none kVOf dcOf pmOf anOf cdOf ctOf), slOf⟩) (cOf : PySem.W.codeIn K cdOf "_law_of" = true) (kOf : PySem.W.keepIn K (.ref fOf) = true)
    {fPlaces : Addr} {odPlaces anPlaces : Option Addr} {slPlaces : Array (Option Value)} {ocPlaces kVPlaces dcPlaces pmPlaces cdPlaces ctPlaces : Value}
    (aPlaces : PySem.W.nsIn K mainGlobals "_law_places" = some (some (.ref fPlaces))) (lPlaces : K.lookup fPlaces = some ⟨ocPlaces, odPlaces, .func (PySem.W.fnOf "_law_places" "_law_places" (defArgs sPlaces) (defBody sPlaces) (defScope sPlaces) .none kVPlaces dcPlaces pmPlaces anPlaces cdPlaces ctPlaces), slPlaces⟩) (cPlaces : PySem.W.codeIn K cdPlaces "_law_places" = true) (kPlaces : PySem.W.keepIn K (.ref fPlaces) = true)
    {fBuilt : Addr} {odBuilt anBuilt : Option Addr} {slBuilt : Array (Option Value)} {ocBuilt kVBuilt dcBuilt pmBuilt cdBuilt ctBuilt : Value}
    (aBuilt : PySem.W.nsIn K mainGlobals "_law_built" = some (some (.ref fBuilt))) (lBuilt : K.lookup fBuilt = some ⟨ocBuilt, odBuilt, .func (PySem.W.fnOf "_law_built" "_law_built" (defArgs sBuilt) (defBody sBuilt) (defScope sBuilt) .none kVBuilt dcBuilt pmBuilt anBuilt cdBuilt ctBuilt), slBuilt⟩) (cBuilt : PySem.W.codeIn K cdBuilt "_law_built" = true) (kBuilt : PySem.W.keepIn K (.ref fBuilt) = true)
    {fWords : Addr} {odWords anWords : Option Addr} {slWords : Array (Option Value)} {ocWords kVWords dcWords pmWords cdWords ctWords : Value}
    (aWords : PySem.W.nsIn K mainGlobals "_law_words" = some (some (.ref fWords))) (lWords : K.lookup fWords = some ⟨ocWords, odWords, .func (PySem.W.fnOf "_law_words" "_law_words" (defArgs sWords) (defBody sWords) (defScope sWords) .none kVWords dcWords pmWords anWords cdWords ctWords), slWords⟩) (cWords : PySem.W.codeIn K cdWords "_law_words" = true) (kWords : PySem.W.keepIn K (.ref fWords) = true)
    {fLaw : Addr} {odLaw anLaw : Option Addr} {slLaw : Array (Option Value)} {ocLaw kVLaw dcLaw pmLaw cdLaw ctLaw : Value}
    (aLaw : PySem.W.nsIn K mainGlobals "law" = some (some (.ref fLaw))) (lLaw : K.lookup fLaw = some ⟨ocLaw, odLaw, .func (PySem.W.fnOf "law" "law" (defArgs sLaw) (defBody sLaw) (defScope sLaw) .none kVLaw dcLaw pmLaw anLaw cdLaw ctLaw), slLaw⟩) (cLaw : PySem.W.codeIn K cdLaw "law" = true) (kLaw : PySem.W.keepIn K (.ref fLaw) = true)
    (z_len : PySem.W.nsIn K mainGlobals "len" = some none)
    (z_abs : PySem.W.nsIn K mainGlobals "abs" = some none)
    (z_int : PySem.W.nsIn K mainGlobals "int" = some none)
    (z_range : PySem.W.nsIn K mainGlobals "range" = some none)
    (z_list : PySem.W.nsIn K mainGlobals "list" = some none)
    (z_tuple : PySem.W.nsIn K mainGlobals "tuple" = some none)
    (z_min : PySem.W.nsIn K mainGlobals "min" = some none)
    (z_sum : PySem.W.nsIn K mainGlobals "sum" = some none)
    (z_any : PySem.W.nsIn K mainGlobals "any" = some none)
    (z_zip : PySem.W.nsIn K mainGlobals "zip" = some none)
    (z_enumerate : PySem.W.nsIn K mainGlobals "enumerate" = some none)
    : ∃ fd : FuncData, (∀ (s : Shared) (v : Value), BindsTo s fd ⟨[v], []⟩ [("_law_script", v)]) ∧ ∀ base : Heap, K.In base → base.Ns mainGlobals mg → SysD base → FnG l.prog w K mg base 7 fa fd ["_law_script"] (spLaw K) := by
  have e := hfa.symm.trans (PySem.W.mg_of X G aLaw)
  cases e
  have FTwosIn := fun_mk (st := sTwosIn) lTwosIn cTwosIn kTwosIn
  have bTwosIn := FTwosIn.binds (ps := ["n"]) fun _ _ _ _ _ _ us hl => match us, hl with | [_], _ => rfl
  have gTwosIn := PySem.W.mg_of X G aTwosIn
  have FOddPart := fun_mk (st := sOddPart) lOddPart cOddPart kOddPart
  have bOddPart := FOddPart.binds (ps := ["n"]) fun _ _ _ _ _ _ us hl => match us, hl with | [_], _ => rfl
  have gOddPart := PySem.W.mg_of X G aOddPart
  have FCommon := fun_mk (st := sCommon) lCommon cCommon kCommon
  have bCommon := FCommon.binds (ps := ["a", "b"]) fun _ _ _ _ _ _ us hl => match us, hl with | [_, _], _ => rfl
  have gCommon := PySem.W.mg_of X G aCommon
  have FUnit := fun_mk (st := sUnit) lUnit cUnit kUnit
  have bUnit := FUnit.binds (ps := ["row"]) fun _ _ _ _ _ _ us hl => match us, hl with | [_], _ => rfl
  have gUnit := PySem.W.mg_of X G aUnit
  have FMeasure := fun_mk (st := sMeasure) lMeasure cMeasure kMeasure
  have bMeasure := FMeasure.binds (ps := ["row"]) fun _ _ _ _ _ _ us hl => match us, hl with | [_], _ => rfl
  have gMeasure := PySem.W.mg_of X G aMeasure
  have FTwos := fun_mk (st := sTwos) lTwos cTwos kTwos
  have bTwos := FTwos.binds (ps := ["row"]) fun _ _ _ _ _ _ us hl => match us, hl with | [_], _ => rfl
  have gTwos := PySem.W.mg_of X G aTwos
  have FOddOnes := fun_mk (st := sOddOnes) lOddOnes cOddOnes kOddOnes
  have bOddOnes := FOddOnes.binds (ps := ["row"]) fun _ _ _ _ _ _ us hl => match us, hl with | [_], _ => rfl
  have gOddOnes := PySem.W.mg_of X G aOddOnes
  have FHol := fun_mk (st := sHolders) lHol cHol kHol
  have bHol := FHol.binds (ps := ["row"]) fun _ _ _ _ _ _ us hl => match us, hl with | [_], _ => rfl
  have gHol := PySem.W.mg_of X G aHol
  have FHfn := fun_mk (st := sHfn) lHfn cHfn kHfn
  have bHfn := FHfn.binds (ps := ["row", "other"]) fun _ _ _ _ _ _ us hl => match us, hl with | [_, _], _ => rfl
  have gHfn := PySem.W.mg_of X G aHfn
  have FAsked := fun_mk (st := sAsked) lAsked cAsked kAsked
  have bAsked := FAsked.binds (ps := ["row", "other"]) fun _ _ _ _ _ _ us hl => match us, hl with | [_, _], _ => rfl
  have gAsked := PySem.W.mg_of X G aAsked
  have FBroken := fun_mk (st := sBroken) lBroken cBroken kBroken
  have bBroken := FBroken.binds (ps := ["row", "other"]) fun _ _ _ _ _ _ us hl => match us, hl with | [_, _], _ => rfl
  have gBroken := PySem.W.mg_of X G aBroken
  have FBox := fun_mk (st := sBox) lBox cBox kBox
  have bBox := FBox.binds (ps := ["_law_script", "_law_k"]) fun _ _ _ _ _ _ us hl => match us, hl with | [_, _], _ => rfl
  have gBox := PySem.W.mg_of X G aBox
  have FTake := fun_mk (st := sTake) lTake cTake kTake
  have bTake := FTake.binds (ps := ["_law_box_here", "_law_many"]) fun _ _ _ _ _ _ us hl => match us, hl with | [_, _], _ => rfl
  have gTake := PySem.W.mg_of X G aTake
  have FOf := fun_mk (st := sOf) lOf cOf kOf
  have bOf := FOf.binds (ps := ["_law_box_here", "_law_some"]) fun _ _ _ _ _ _ us hl => match us, hl with | [_, _], _ => rfl
  have gOf := PySem.W.mg_of X G aOf
  have FPlaces := fun_mk (st := sPlaces) lPlaces cPlaces kPlaces
  have bPlaces := FPlaces.binds (ps := ["_law_box_here", "_law_amounts", "_law_nothing"]) fun _ _ _ _ _ _ us hl => match us, hl with | [_, _, _], _ => rfl
  have gPlaces := PySem.W.mg_of X G aPlaces
  have FBuilt := fun_mk (st := sBuilt) lBuilt cBuilt kBuilt
  have bBuilt := FBuilt.binds (ps := ["_law_box_here", "_law_total", "_law_many", "_law_odd", "_law_twos_more"]) fun _ _ _ _ _ _ us hl => match us, hl with | [_, _, _, _, _], _ => rfl
  have gBuilt := PySem.W.mg_of X G aBuilt
  have FWords := fun_mk (st := sWords) lWords cWords kWords
  have bWords := FWords.binds (ps := ["_law_one", "_law_other", "_law_row", "_law_last"]) fun _ _ _ _ _ _ us hl => match us, hl with | [_, _, _, _], _ => rfl
  have gWords := PySem.W.mg_of X G aWords
  have FLaw := fun_mk (st := sLaw) lLaw cLaw kLaw
  have m_len := PySem.W.mg_none_of X G z_len
  have m_abs := PySem.W.mg_none_of X G z_abs
  have m_int := PySem.W.mg_none_of X G z_int
  have m_range := PySem.W.mg_none_of X G z_range
  have m_list := PySem.W.mg_none_of X G z_list
  have m_tuple := PySem.W.mg_none_of X G z_tuple
  have m_min := PySem.W.mg_none_of X G z_min
  have m_sum := PySem.W.mg_none_of X G z_sum
  have m_any := PySem.W.mg_none_of X G z_any
  have m_zip := PySem.W.mg_none_of X G z_zip
  have m_enumerate := PySem.W.mg_none_of X G z_enumerate
  refine ⟨PySem.W.fnOf "law" "law" (defArgs sLaw) (defBody sLaw) (defScope sLaw) .none kVLaw dcLaw pmLaw anLaw cdLaw ctLaw, fun s v => .of_eq rfl, fun base _ _ sys => ?_⟩
  have GTwosIn := ok_twosIn (mg := mg) (P := l.prog) (w := w) (base := base) (k := 0) FTwosIn
  have GOddPart := ok_oddPart (P := l.prog) (w := w) (base := base) (k := 0) FOddPart FTwosIn bTwosIn gTwosIn
  have GUnit := ok_unit (P := l.prog) (w := w) (base := base) (k := 0) FUnit FCommon bCommon gCommon
  have GMeasure := ok_measure (P := l.prog) (w := w) (base := base) (k := 0) FMeasure FOddPart bOddPart gOddPart GOddPart FUnit bUnit gUnit GUnit
  have GTwos := ok_twos (P := l.prog) (w := w) (base := base) (k := 0) FTwos FTwosIn bTwosIn gTwosIn GTwosIn FUnit bUnit gUnit GUnit
  have GOddOnes := ok_oddOnes (P := l.prog) (w := w) (base := base) (k := 0) FOddOnes FTwosIn bTwosIn gTwosIn GTwosIn FTwos bTwos gTwos GTwos m_len
  have GHol := ok_holders (P := l.prog) (w := w) (base := base) (k := 0) FHol m_tuple m_enumerate
  have GHfn := ok_hfn (P := l.prog) (w := w) (base := base) (k := 0) FHfn m_any m_zip
  have GAsked := ok_asked (P := l.prog) (w := w) (base := base) (k := 0) FAsked FTwos bTwos gTwos GTwos FHfn bHfn gHfn GHfn FMeasure bMeasure gMeasure GMeasure FOddOnes bOddOnes gOddOnes GOddOnes FHol bHol gHol GHol m_sum m_len
  have GBroken := ok_broken (P := l.prog) (w := w) (base := base) (k := 0) FBroken FAsked bAsked gAsked GAsked FHol bHol gHol GHol m_len m_tuple
  have GBox := ok_box (P := l.prog) (w := w) (base := base) (k := 0) FBox m_len m_abs m_int
  have GPlaces := ok_places (P := l.prog) (w := w) (base := base) (k := 0) FPlaces FTake bTake gTake m_len m_list m_tuple
  have GBuilt := ok_built (P := l.prog) (w := w) (base := base) (k := 0) FBuilt FTake bTake gTake m_range
  have GWords := ok_words (mg := mg) (P := l.prog) (w := w) (base := base) (k := 0) FWords m_any m_zip m_int m_tuple
  exact ok_law (k := 0) FLaw FBox bBox gBox GBox FTake bTake gTake FOf bOf gOf FBuilt bBuilt gBuilt GBuilt FPlaces bPlaces gPlaces GPlaces FWords bWords gWords GWords FBroken bBroken gBroken GBroken m_len m_min m_range
end K18
open PySem PySem.W PyProof.Rows
set_option maxHeartbeats 0 in
theorem PySem.Challenge.cw_matchgift_k18_odd_ones_and_twos_holds : PySem.Challenge.rw_matchgift_k18_odd_ones_and_twos.Holds := by
  w_on; o_law; k_head; (case hw => w_witness2)
  k_fill
  refine MG.walkG (l := PySem.Challenge.rw_matchgift_k18_odd_ones_and_twos) (n := 63) (k := 7) (x := "_law_script") (sp := K18.spLaw) rfl (by decide) rfl ⟨rfl, by decide, by decide⟩ (by decide +kernel) (fun w h Y => PySem.W.kIn_of Y) ?F (fun _ _ a ns hl _ hS => ⟨a, ns, rfl, hS, hl, fun _ => rfl⟩)
  case F =>
    intro w mg fa h KX G hmg
    refine' K18.all_mk KX G hmg ?aTwosIn ?lTwosIn ?cTwosIn ?kTwosIn ?aOddPart ?lOddPart ?cOddPart ?kOddPart ?aCommon ?lCommon ?cCommon ?kCommon ?aUnit ?lUnit ?cUnit ?kUnit ?aMeasure ?lMeasure ?cMeasure ?kMeasure ?aTwos ?lTwos ?cTwos ?kTwos ?aOddOnes ?lOddOnes ?cOddOnes ?kOddOnes ?aHol ?lHol ?cHol ?kHol ?aHfn ?lHfn ?cHfn ?kHfn ?aAsked ?lAsked ?cAsked ?kAsked ?aBroken ?lBroken ?cBroken ?kBroken ?aBox ?lBox ?cBox ?kBox ?aTake ?lTake ?cTake ?kTake ?aOf ?lOf ?cOf ?kOf ?aPlaces ?lPlaces ?cPlaces ?kPlaces ?aBuilt ?lBuilt ?cBuilt ?kBuilt ?aWords ?lWords ?cWords ?kWords ?aLaw ?lLaw ?cLaw ?kLaw ?z_len ?z_abs ?z_int ?z_range ?z_list ?z_tuple ?z_min ?z_sum ?z_any ?z_zip ?z_enumerate
    (case aTwosIn => k_is); (case lTwosIn => k_is); (case cTwosIn => k_is); (case kTwosIn => k_is); (case aOddPart => k_is); (case lOddPart => k_is); (case cOddPart => k_is); (case kOddPart => k_is); (case aCommon => k_is); (case lCommon => k_is); (case cCommon => k_is); (case kCommon => k_is); (case aUnit => k_is); (case lUnit => k_is); (case cUnit => k_is); (case kUnit => k_is); (case aMeasure => k_is); (case lMeasure => k_is); (case cMeasure => k_is); (case kMeasure => k_is); (case aTwos => k_is); (case lTwos => k_is); (case cTwos => k_is); (case kTwos => k_is); (case aOddOnes => k_is); (case lOddOnes => k_is); (case cOddOnes => k_is); (case kOddOnes => k_is); (case aHol => k_is); (case lHol => k_is); (case cHol => k_is); (case kHol => k_is); (case aHfn => k_is); (case lHfn => k_is); (case cHfn => k_is); (case kHfn => k_is); (case aAsked => k_is); (case lAsked => k_is); (case cAsked => k_is); (case kAsked => k_is); (case aBroken => k_is); (case lBroken => k_is); (case cBroken => k_is); (case kBroken => k_is); (case aBox => k_is); (case lBox => k_is); (case cBox => k_is); (case kBox => k_is); (case aTake => k_is); (case lTake => k_is); (case cTake => k_is); (case kTake => k_is); (case aOf => k_is); (case lOf => k_is); (case cOf => k_is); (case kOf => k_is); (case aPlaces => k_is); (case lPlaces => k_is); (case cPlaces => k_is); (case kPlaces => k_is); (case aBuilt => k_is); (case lBuilt => k_is); (case cBuilt => k_is); (case kBuilt => k_is); (case aWords => k_is); (case lWords => k_is); (case cWords => k_is); (case kWords => k_is); (case aLaw => k_is); (case lLaw => k_is); (case cLaw => k_is); (case kLaw => k_is); (case z_len => k_is); (case z_abs => k_is); (case z_int => k_is); (case z_range => k_is); (case z_list => k_is); (case z_tuple => k_is); (case z_min => k_is); (case z_sum => k_is); (case z_any => k_is); (case z_zip => k_is); (case z_enumerate => k_is)
