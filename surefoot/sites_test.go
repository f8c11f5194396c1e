package surefoot

import (
	"math"
	"math/rand"
	"slices"
	"strings"
	"testing"

	"surefoot/api"
)

// letters writes sites as letters: great ones are sure.
func letters(sites []api.Site) string {
	text := ""
	for _, site := range sites {
		letter := []string{"", "l", "s", "d", "c"}[site.Kind]
		if site.Sure {
			letter = strings.ToUpper(letter)
		}
		text += letter
	}
	return text
}

// checkSites wants sites by letters: great ones for those that are sure by ranges, small ones for those where a run can trap, ? for any others.
func checkSites(t *testing.T, text, want string) {
	t.Helper()
	got := []byte(letters(mustRead(t, text).Sites()))
	for i := range got {
		if i < len(want) && want[i] == '?' {
			got[i] = '?'
		}
	}
	if string(got) != want {
		t.Errorf("P10, P11: sites of %q: %s, want %s", text, got, want)
	}
}

// checkBodies puts each body into a main with two arguments and arrays of 10 and 1 numbers. LOW and HIGH are variables with the least and the greatest number.
func checkBodies(t *testing.T, cases [][2]string) {
	t.Helper()
	for _, c := range cases {
		body := c[0]
		if strings.Contains(body, "LOW") || strings.Contains(body, "HIGH") {
			body = strings.NewReplacer("LOW", "low", "HIGH", "high").Replace("let low=-65536*65536*65536*16384*2;let high=-(low+1);" + body)
		}
		checkSites(t, "arr a 10;arr b 1;fn main(n,m){"+body+"}", c[1])
	}
}

func TestSitesOfTheExamples(t *testing.T) {
	checkSites(t, tableText, "SL")
	checkSites(t, strings.Replace(tableText, "i < 10", "i < n", 1), "sl")
	checkSites(t, strings.NewReplacer("i < 10", "i < n", "fn main(n)", "fn main(n) where n <= 10").Replace(tableText), "SL")
	checkSites(t, halfText, "DCc")
	checkSites(t, deepText, "")
}

func TestKindsAndBytes(t *testing.T) {
	text := "arr é 2;fn f(x)where x<9{out x;}fn main(n){é[n]=f(1/n);while é[1]<2{out é[é[0]%2];}g[g[2]]=n;}arr g 3;"
	want := []api.Site{
		{Kind: api.Store, At: 44}, {Kind: api.Call, At: 50}, {Kind: api.Divide, At: 53}, {Kind: api.Load, At: 63, Sure: true}, {Kind: api.Load, At: 75},
		{Kind: api.Load, At: 78, Sure: true}, {Kind: api.Divide, At: 83, Sure: true}, {Kind: api.Store, At: 88}, {Kind: api.Load, At: 90, Sure: true},
	}
	if got := mustRead(t, text).Sites(); !slices.Equal(got, want) {
		t.Errorf("P9: sites of %q: %v, want %v", text, got, want)
	}
	for _, text := range []string{"fn main(){}", "arr a 3;fn f(x){return x;}fn main(){return f(1)+2*3-f(4);}"} {
		if got := mustRead(t, text).Sites(); len(got) != 0 {
			t.Errorf("P9: sites of %q: %v", text, got)
		}
	}
}

func TestWhatIsKnownAtTheBeginning(t *testing.T) {
	for _, c := range [][2]string{
		{"arr a 10;fn main(n){return a[n];}", "l"},
		{"arr a 10;fn main(n){if n>0{let i=20;}return a[i];}", "l"}, {"arr a 10;fn main(n){if n>0{let i=9;}return a[i];}", "L"},
		{"arr a 10;fn main(n){while n>9{let i=9;n=n-1;return 1;}return a[i];}", "L"},
		{"arr a 10;fn main(n)where n>=0,n<10{return a[n];}", "L"}, {"arr a 10;fn main(n)where n>=0,n<11{return a[n];}", "l"},
		{"arr a 10;fn main(n)where -1<n,9>=n{return a[n];}", "L"}, {"arr a 10;fn main(n)where n==9{return a[n];}", "L"},
		{"arr a 10;fn main(n)where n>=-1,n<10,n!=-1{return a[n];}", "L"}, {"arr a 10;fn main(n)where n!=-1,n>=-1,n<10{return a[n];}", "?"},
		{"arr a 10;fn main(x,y)where x>=0,y<=10,x<y{return a[x]+1/y;}", "LD"}, {"arr a 10;fn main(x,y)where x>=0,x<y,y<=10{return a[x]+1/y;}", "?D"},
		{"fn main(n)where n<0,n>0{return 1/0;}", "D"}, {"fn main(n)where n==3,n!=3{out 1/0;return n/n;}", "DD"}, {"fn main(n)where 2<1{return 1/0;}", "?"},
		// Nothing is left over of another function.
		{"arr a 10;fn f(x,y)where x>=0,x<10{let i=x;return a[x]+a[i];}fn main(n){let i=n;return a[n]+a[i];}fn g(x,y){return a[x];}", "LLlll"},
		{"arr a 10;fn f(x){while x>0{return 1;}return 2;}fn g(x)where x<0,x>0{}fn main(n){return a[n];}", "l"},
		// Nor is anything known by who calls.
		{"fn f(x){return 1/x;}fn main(){return f(2);}", "?"}, {"fn f(x){return 1/x;}fn main(){return f(0);}", "d"},
	} {
		checkSites(t, c[0], c[1])
	}
}

func TestRangesOfExpressions(t *testing.T) {
	checkBodies(t, [][2]string{
		{"return a[0]+a[9]+b[0];", "LLL"}, {"return a[10];", "l"}, {"return b[1];", "l"}, {"return a[-1];", "l"}, {"return a[999999999];", "l"},
		{"return a[-0]+a[- -9];", "LL"},
		{"a[9]=n;b[0]=n;", "SS"}, {"a[10]=n;", "s"}, {"a[n]=1;", "s"}, {"b[-1]=1;", "s"}, {"a[a[3]]=1;", "sL"}, {"a[3]=a[n];", "Sl"},
		{"return n/1+n%1+n/-1+n%-1;", "DDDD"}, {"return 1/0;", "d"}, {"return 1%0;", "d"}, {"return 1/n;", "d"}, {"return n%n;", "d"},
		{"return 1/(3-3);", "d"}, {"return 1%(3-4);", "D"},
		{"return a[a[3]];", "lL"}, {"return a[main(1,2)];", "l"}, {"return 1/b[0];", "dL"},
		{"return a[4+5]+a[19-10]+a[3*3]+a[19/2]+a[19%10]+a[(9)];", "LLLLDLDL"}, {"return a[4+6];", "l"}, {"return a[9-10];", "l"}, {"return a[2*5];", "l"},
		{"return a[20/2];", "lD"}, {"return a[(10)];", "l"},
		{"if n>=0&&n<=4{return a[n+5]+a[n*2]+a[9-n]+a[n/2]+a[-n+4];}", "LLLLDL"}, {"if n>=0&&n<=4{return a[n+6];}", "l"},
		{"if n>=0&&n<=4{return a[n*3];}", "l"}, {"if n>=0&&n<=4{return a[3-n];}", "l"}, {"if n>=-4&&n<=4{return a[n+4];}", "L"},
		{"if n>=-4&&n<=4{return a[-n+4];}", "L"},
		{"if n>=-3&&n<=3{return a[n*n];}", "?"}, {"if n>=-3&&n<=3{return a[n*n+9];}", "l"}, {"if n>=-3&&n<=3{return 1/(n*n+10);}", "D"},
		{"if n>=-3&&n<=3{return 1/(n*n+9);}", "?"}, {"if n>=-3&&n<=3{return 1/(n*n);}", "d"},
		// What does not fit is not known.
		{"if n>0{return 1/(n+1);}", "?"}, {"if n>0&&n<HIGH{return 1/(n+1);}", "D"}, {"if n<0{return 1/(n-1);}", "?"},
		{"if n<0&&n>LOW{return 1/(n-1);}", "D"}, {"if n>0{return 1/(n*2-1);}", "?"},
		{"if n<0{return 1/-n;}", "?"}, {"if n<0&&n>LOW{return 1/-n;}", "D"}, {"if n>0{return 1/-n;}", "D"}, {"if n>LOW&&n<-LOW{return 1/n;}", "?"},
		{"return 1/(HIGH*2);", "?"}, {"return 1/(HIGH+1-1);", "?"}, {"return 1/HIGH+1/LOW;", "DD"},
		// The least number divided by -1 is itself, so nothing is known of that.
		{"return a[LOW/-1];", "lD"}, {"return a[n/999999999];", "lD"}, {"if n>=0{return a[n/HIGH];}", "LD"}, {"if n>LOW{return a[n/HIGH+1];}", "LD"},
		{"return a[n/HIGH+1];", "lD"}, {"if n>0{return a[9/n];}", "LD"}, {"if n>=0{return a[9/n];}", "ld"}, {"if n<0{return a[9/n+9];}", "LD"},
		{"if n>0{return a[8/n+1];}", "LD"}, {"if n>=1&&n<=3&&m>=-20&&m<=-12{return a[m/n+20];}", "lD"},
		{"if n>=2&&n<=3&&m>=-19&&m<=-12{return a[m/n+10]+a[m/n+14];}", "LDlD"},
		{"if n>=0{return a[n%10];}", "LD"}, {"if n>=0{return a[n%-10];}", "LD"}, {"if n>=0{return a[n%11];}", "lD"}, {"return a[n%10];", "lD"},
		{"return a[n%5+4];", "LD"}, {"return a[n%-5+4];", "LD"}, {"return a[n%5+6];", "lD"}, {"if n<=0{return a[n%10+9];}", "LD"},
		{"if n<=0{return a[n%10+10];}", "lD"}, {"if n<=0{return b[n%1];}", "LD"}, {"if n>=0&&m>9&&m<11{return a[n%m];}", "LD"},
		{"if n>=0&&m>8&&m<11{return a[n%m];}", "?D"}, {"if n>=3&&n<=5{return a[n%10];}", "LD"}, {"if n==0{return a[n%999];}", "LD"},
		{"return a[n%LOW];", "lD"},
	})
}

func TestVariablesThatAreSet(t *testing.T) {
	checkBodies(t, [][2]string{
		{"let i=9;return a[i];", "L"}, {"let i=10;return a[i];", "l"}, {"let i=9;i=i+1;return a[i];", "l"}, {"let i=10;i=i-1;return a[i];", "L"},
		{"n=3;return a[n];", "L"}, {"let i=n;return a[i];", "l"}, {"let i=a[0];return a[i];", "Ll"},
		{"if n>=0&&n<10{let i=n;n=50;return a[i]+a[n];}", "Ll"}, {"let i=3;a[i]=50;return a[i];", "SL"}, {"let i=3;out main(n,i);return a[i];", "L"},
		{"let i=1;if n>0{i=2;}else{i=3;}return 1/i+a[i];", "DL"}, {"let i=0;if n>0{i=9;}return a[i];", "L"}, {"let i=0;if n>0{i=10;}return a[i];", "l"},
		{"let i=0;if n>0{}else{i=10;}return a[i];", "l"}, {"let i=0;if n>0{i=10;return 1;}return a[i];", "L"},
		{"let i=0;if n>0{i=5;}else{i=10;return 1;}return a[i];", "L"}, {"let i=-1;if n>0{i=1;}return 1/i;", "?"},
		{"if n<0{return 1;}else{return 2;}return 1/0;", "D"}, {"return 1;return 1/0;", "D"}, {"return 1/0;return 1/0;", "dD"},
		{"if n<0{return 1;out a[99];}out a[99];", "Ll"}, {"if n<0{return 1;while n<0{if n<0{a[99]=1/0;}else{out main(1/0,2);}}}", "SDD"},
		{"if n<0{return 0;}if n>9{return 0;}return a[n];", "L"}, {"if n<0{n=0;}if n>9{n=9;}return a[n];", "L"},
		{"if n<0{n=0;}else{if n>9{n=9;}}return a[n];", "L"},
	})
}

func TestComparisonsThatHold(t *testing.T) {
	checkBodies(t, [][2]string{
		// Each operator, both ways round, where it holds and where it does not.
		{"if n>=0{if n<10{return a[n];}else{return 1/n;}}", "LD"}, {"if n>=0{if 10>n{return a[n];}else{return 1/n;}}", "LD"},
		{"if n>=0{if n<11{return a[n];}}", "l"}, {"if n>=0{if n<=9{return a[n];}else{return 1/(n-9);}}", "LD"},
		{"if n>=0{if 9>=n{return a[n];}else{return 1/(n-9);}}", "LD"}, {"if n>=0{if n<=10{return a[n];}}", "l"},
		{"if n<10{if n>-1{return a[n];}else{return 1/n;}}", "LD"}, {"if n<10{if -1<n{return a[n];}else{return 1/n;}}", "LD"},
		{"if n<10{if n>=0{return a[n];}else{return 1/n;}}", "LD"}, {"if n<10{if 0<=n{return a[n];}else{return 1/n;}}", "LD"},
		{"if n<10{if n>=-1{return a[n];}}", "l"}, {"if n>=0{if n>9{}else{return a[n];}}", "L"}, {"if n>=0{if n>=10{}else{return a[n];}}", "L"},
		{"if n==9{return a[n];}else{return a[n];}", "Ll"}, {"if 9==n{return a[n];}", "L"}, {"if n!=9{return a[n];}else{return a[n];}", "lL"},
		{"if n==m{return a[n];}", "l"},
		{"if n>=0{if n!=0{return 1/n;}else{return 1/n;}}", "Dd"}, {"if n<=0{if 0!=n{return 1/n;}}", "D"}, {"if n>=0{if n==0{}else{return 1/n;}}", "D"},
		{"if n!=0{return 1/n;}", "?"}, {"if n>=-1&&n!=0{return 1/n;}", "?"}, {"if n>=0&&n!=1{return 1/n;}", "d"},
		{"if n>=0&&n<=10&&n!=10{return a[n];}", "L"},
		// Both sides are variables.
		{"if n>=0&&m<=10{if n<m{return a[n]+1/m;}}", "LD"}, {"if n>=0&&m<=10{if m>n{return a[n]+1/m;}}", "LD"},
		{"if n>=0&&m<=9{if n<=m{return a[n]+a[m];}}", "LL"}, {"if n>=0&&m<=10{if n<=m{return a[n];}}", "l"},
		{"if n>=0&&m<10{if n==m{return a[n]+a[m];}}", "LL"}, {"if n>=0&&m<10{if n>=m{}else{return a[n]+1/m;}}", "LD"},
		{"if n>0&&m<10{if n!=m{}else{return a[n]+1/m;}}", "LD"}, {"if n>=0&&m==0&&n!=m{return 1/n;}", "D"}, {"if n==0&&m>=0&&n!=m{return 1/m;}", "D"},
		{"if n==0&&m==0{if n!=m{return 1/0;}}", "D"},
		{"if n>0&&m<10{if n!=m{return 1/n+a[m];}}", "Dl"},
		// Brackets are no more than that; signs and sums are.
		{"if (n)>=0&&9>=((n)){return a[n];}", "L"}, {"if (n)==(m)&&m>=0&&m<10{return a[m];}", "L"}, {"if n+0>=0&&n<10{return a[n];}", "?"},
		{"if -n<=0&&n<10{return a[n];}", "l"}, {"if - -n>=0&&n<10{return a[n];}", "?"}, {"if n*1==3{return a[n];}", "?"},
		{"if n<m+1&&m>=0&&m<9{if n>=0{return a[n];}}", "l"}, {"if m>=0&&m<9&&n<m+2&&n>=m{return a[n];}", "L"}, {"if n<a[0]{return a[n];}", "Ll"},
		// A variable held against itself.
		{"if n<n{return 1/0;}", "?"}, {"if n!=n{return 1/0;}", "?"}, {"let i=3;if i<i{return 1/0;}if i>i{return 1/0;}if i!=i{return 1/0;}", "DDD"},
		{"if n>=3&&n<=4{if n<n{return 1/0;}if n>n{return 1/0;}}", "DD"}, {"if n==n&&n<=n&&n>=n{return a[n];}", "l"},
		{"let i=3;if i==i{return a[i];}else{return 1/0;}", "LD"}, {"let i=3;if i<=i{return 1/i;}else{return 1/0;}", "DD"},
		// Nothing is left of a variable.
		{"let i=3;if i<3{return a[99]/0;}else{return a[i];}", "LDL"}, {"let i=3;if 3>i{}else{return a[i];}", "L"},
		{"let i=3;if i>3{return 1/0;}if i<=2{return 1/0;}if i>=4{return 1/0;}if i==4{return 1/0;}if 4==i{return 1/0;}if i!=3{return 1/0;}if 3!=i{return 1/0;}", "DDDDDDD"},
		{"let i=3;if i>=3{if i<=3{if i==3{return 1/0;}}}", "d"},
		{"if n>5{if n<5{return 1/0;}if n<=5{return 1/0;}if n==5{return 1/0;}if n<6{return 1/0;}}", "DDDD"}, {"if n>5{if n<7{return 1/0;}}", "d"},
		{"if 2<1{return 1/0;}if 2!=2{return 1/0;}", "??"},
	})
}

func TestComparisonsAtTheEndsOfTheNumbers(t *testing.T) {
	checkBodies(t, [][2]string{
		// Nothing is below or above what is no variable.
		{"if n<LOW+0{return 1/0;}", "D"}, {"if LOW+0>n{return 1/0;}", "D"}, {"if n>HIGH+0{return 1/0;}", "D"}, {"if HIGH+0<n{return 1/0;}", "D"},
		{"if a[0]<LOW+0{return 1/0;}", "LD"}, {"if a[0]>HIGH+0{return 1/0;}", "LD"}, {"if n>=LOW+0{}else{return 1/0;}", "D"}, {"if n<=HIGH+0{}else{return 1/0;}", "D"},
		{"if n<=LOW+0{return 1/0;}", "d"}, {"if n>=HIGH+0{return 1/0;}", "d"}, {"if n<LOW+1{return 1/0;}", "d"}, {"if n>HIGH-1{return 1/0;}", "d"},
		{"if n<LOW{return 1/0;}", "D"}, {"if LOW>n{return 1/0;}", "D"}, {"if n>HIGH{return 1/0;}", "D"}, {"if HIGH<n{return 1/0;}", "D"},
		{"if a[0]<LOW{return 1/0;}", "LD"}, {"if a[0]>HIGH{return 1/0;}", "LD"}, {"if n<LOW{}else{return 1/n;}", "d"},
		{"if n<=LOW{return 1/n;}else{return 1/n;}", "Dd"}, {"if n>=HIGH{return 1/n;}", "D"}, {"if n>=LOW{return 1/n;}else{return 1/0;}", "dD"},
		{"if n<=HIGH{return 1/n;}else{return 1/0;}", "dD"}, {"if a[0]<=LOW{return 1/0;}", "Ld"},
		{"if n==LOW{return 1/n;}", "D"}, {"if n!=LOW{if n<0{return 1/-n;}}", "D"}, {"if LOW!=n{if n<0{return 1/-n;}}", "D"},
		{"if n!=HIGH{if n>0{return 1/(n+1);}}", "D"}, {"let i=LOW;if i!=LOW{return 1/0;}if LOW!=i{return 1/0;}", "DD"},
		{"let i=HIGH;if i!=HIGH{return 1/0;}if HIGH!=i{return 1/0;}", "DD"}, {"let i=HIGH;if i==HIGH{return 1/i;}else{return 1/0;}", "DD"},
		{"if n<m{if n<0{return 1/(n-1);}if m>0{return 1/-m;}}", "?D"}, {"if n<m&&n>0{return 1/(n+1);}", "D"}, {"if n<m&&m<0{return 1/(m-1);}", "D"},
		{"if n<=m&&n>0{return 1/(n+1);}", "?"}, {"if n<n{if n>0{return 1/(n+1);}}", "D"}, {"if n>n{if n<0{return 1/(n-1);}}", "D"},
	})
}

func TestConditions(t *testing.T) {
	checkBodies(t, [][2]string{
		{"if n>=0&&n<10{return a[n];}else{return a[n];}", "Ll"}, {"if n<0||n>=10{return a[n];}else{return a[n];}", "lL"},
		{"if n<0||n>=10||m>0{}else{return a[n]+a[m];}", "Ll"},
		{"if n>=0&&n<10&&a[n]==1&&1/n==1{}", "Ld"}, {"if n<0||n>=10||a[n]==1||1/n==1{}", "Ld"}, {"if n<0&&a[n]==1{}", "l"}, {"if n<0||a[n]==1{}", "l"},
		{"if n>=0||a[n]==1{}", "l"}, {"if a[n]==1&&n>=0&&n<10{return a[n];}", "lL"},
		// Where it does not hold, the two ways meet.
		{"if n>=0{if n<10&&m>0{}else{return a[n];}}", "l"}, {"if n>=0&&n<=12{if n<10&&m>0{}else{return 1/(n+1)+1/(n-10);}}", "Dd"},
		{"if n>=3&&n<=20{if n<10&&n>=5{}else{return 1/n;}}", "D"}, {"if n>=3&&n<=20{if n<10&&n>=3{}else{return 1/(n-9);}}", "D"},
		{"if n>=10&&n<=15||n>=17&&n<=19{return a[n-10]+1/(n-16);}", "Ld"}, {"if n==1||n==2||n==3{return 1/n+a[n];}", "DL"},
		{"if n==1||n==2||m==3{return 1/n;}", "d"}, {"if n>=0&&n<10||m>=0&&m<10{return a[n];}", "l"}, {"if n>=0&&(n)<10||m>=0&&n==3{return a[n];}", "L"},
		// One way is dead.
		{"let i=3;if i>5||n==2{return a[n];}", "L"}, {"let i=3;if i>5&&n==2{return a[n];}else{return a[i];}", "LL"},
		{"let i=3;if i<5||n==2{return a[i];}else{return 1/0;}", "LD"}, {"let i=3;if i<5||1/0==1{}", "D"}, {"let i=3;if i>5&&1/0==1{}", "D"},
		{"let i=3;if i<5&&1/0==1{}", "d"}, {"let i=3;if i>5||1/0==1{}", "d"}, {"let i=3;if i>5&&n==1||n==4{return a[n];}", "L"},
		{"let i=3;if i<5&&n==4{}else{return a[n];}", "l"}, {"let i=3;if i>5&&n==4||1/0==1{}", "d"},
		// While has them too.
		{"while n>=0&&n<10&&a[n]==1{out a[n];n=n+1;}", "LL"}, {"while n<0||n>9||a[n]==1{n=n+1;}return a[n];", "LL"},
		{"while n<0||n>9{n=m;}return a[n];", "L"},
	})
}

func TestWhiles(t *testing.T) {
	checkBodies(t, [][2]string{
		{"let i=0;while i<10{a[i]=i;i=i+1;}return a[i];", "Sl"}, {"let i=0;while i<10{i=i+1;}return 1/i;", "D"},
		{"let i=0;while i<10{i=i+1;}if i<11{return a[i-1];}", "L"}, {"let i=0;while i<10{i=i+1;a[i]=i;}", "s"}, {"let i=0;while i<=10{a[i]=i;i=i+1;}", "s"},
		{"let i=9;while i>=0{a[i]=i;i=i-1;}return 1/i;", "SD"}, {"let i=9;while i>0{i=i-1;a[i]=i;}return b[i];", "S?"},
		{"let i=0;while i!=10{a[i]=i;i=i+1;}", "?"}, {"let i=0;while i<n{a[i]=i;i=i+1;}", "s"}, {"let i=0;while i<10{a[i]=i;i=i+m;}", "s"},
		{"while n>=0&&n<10{a[n]=1;n=n+m;}", "S"},
		// What is so in the first round only.
		{"let i=0;while i<5{out 1/(i-3);i=i+1;}", "d"}, {"let i=0;while i<5{out 1/(i-5);i=i+1;}", "D"}, {"let i=1;while n>0{out 1/i;i=i-1;n=n-1;}", "d"},
		{"let i=5;while n>0{out a[i];n=n-1;}return a[i];", "LL"}, {"let i=5;while n>0{i=5;n=n-1;}return a[i];", "L"},
		{"let i=5;while n>0{i=4;n=n-1;}if i>=0{return a[i];}", "L"}, {"let i=5;while n>0{i=6;n=n-1;}if i<10{return a[i];}", "L"},
		{"let i=5;while n>0{i=4;n=n-1;}return a[i];", "?"}, {"let i=5;while n>0{i=60;n=n-1;}return a[i];", "l"},
		// Two changes, then none: i is from 0 on. Three changes: nothing is known of what is set.
		{"let i=0;let j=0;while n>0{if i<10{out a[i];}i=j;j=1;n=n-1;}if i<10{return a[i];}", "LL"},
		{"let i=0;let j=0;let k=0;let p=5;while n>0{if i<10{out a[i];}out a[p];i=j;j=k;k=1;n=n-1;}return a[p];", "?LL"},
		{"let i=0;let j=0;let k=0;let l=0;while n>0{out a[i];i=j;j=k;k=l;l=50;n=n-1;}", "l"},
		{"let i=0;let j=0;let k=0;let l=0;while n>0{i=j;j=k;k=l;l=-1;n=n-1;}return a[i];", "l"},
		{"let i=0;while n>0{if i>0{i=-1;}else{i=1;}n=n-1;}return a[i];", "l"},
		{"let i=0;let j=0;while n>0{if i<10{out a[i];}i=j;j=1;n=n-1;}", "L"}, {"let i=0;let j=0;while n>0{if i>-10{out a[-i];}i=j;j=-1;n=n-1;}", "L"},
		// How it ends.
		{"let i=0;while i<0{i=50;}return a[i];", "L"}, {"let i=0;while i<0{return 1/0;}return a[i];", "DL"},
		{"let i=0;while i<5{return a[i];}return a[i];", "LL"}, {"let i=0;while i<5{i=i+1;if i>3{return a[i];}}return 1/0;", "Ld"},
		{"let i=3;while i==3{out 1;}return 1/0;", "D"}, {"let i=0;while i>=0{if i>8{return a[i];}i=i+1;}", "?"},
		{"let i=0;while n>0{i=50;return 1;}return a[i];", "L"}, {"while n<0{n=n+1;}while n>9{n=n-1;}return a[n];", "L"},
		{"if n<10{while n<0{n=n+1;}return a[n];}", "?"},
		// What is set deep within is set.
		{"let i=0;while n>0{if n>1{if n>2{i=50;}}n=n-1;}return a[i];", "l"}, {"let i=0;while n>0{if n>1{}else{i=50;}n=n-1;}return a[i];", "l"},
		{"let i=0;while n>0{while m>0{i=i+1;m=m-1;}n=n-1;}return a[i];", "l"}, {"while n>0{let i=50;n=n-1;}return a[i];", "l"},
		// One in the other.
		{"let i=0;while i<10{let j=0;while j<10{a[i]=a[j];j=j+1;}i=i+1;}", "SL"}, {"let i=0;while i<10{let j=0;while j<=i{a[j]=a[i];j=j+1;}i=i+1;}", "SL"},
		{"let i=0;while i<10{let j=i;while j<10{a[j]=a[i];j=j+1;}i=i+1;}", "SL"}, {"let i=0;while i<10{let j=0;while j<10{a[i+j]=1;j=j+1;}i=i+1;}", "s"},
		{"let i=0;let j=0;while i<10{while j<10{a[i]=a[j];j=j+1;}i=i+1;}", "SL"}, {"let i=0;let j=0;while i<10{while j<10{j=j+1;i=i+1;a[i]=1;}i=i+1;}", "s"},
		{"let i=0;while i<10{let j=9;while j>=i{a[j]=a[i];j=j-1;}i=i+1;}", "SL"},
		{"while n>0{if n>5{return 1;while n>0{out 1/0;}}n=n-1;}", "D"},
		{"let i=0;while n>0{out 1/(i+1);let j=0;while j<3{if i<9{i=i+1;}j=j+1;}n=n-1;}if i<9{return a[i];}", "?L"},
	})
}

func TestSitesOfCalls(t *testing.T) {
	for _, c := range [][2]string{
		{"fn f(x)where x<5{}fn main(n){out f(4);out f(5);if n<5{return f(n);}return f(n);}", "CcCc"},
		{"fn f(x)where x<=5{}fn main(n){out f(5);out f(6);if n<=5{return f(n);}return f(n);}", "CcCc"},
		{"fn f(x)where x>5{}fn main(n){out f(6);out f(5);if n>5{return f(n);}return f(n);}", "CcCc"},
		{"fn f(x)where x>=5{}fn main(n){out f(5);out f(4);if n>=5{return f(n);}return f(n);}", "CcCc"},
		{"fn f(x)where x==5{}fn main(n){out f(5);out f(4);if n==5{return f(n);}return f(n);}", "CcCc"},
		{"fn f(x)where x!=5{}fn main(n){out f(4);out f(5);if n>5{return f(n);}if n<5{return f(n);}return f(n);}", "CcCCc"},
		{"fn f(x)where -5<x,5>x{}fn main(n){out f(-4);out f(4);out f(-5);out f(5);}", "CCcc"},
		{"fn f(x,y)where x<y{}fn main(n){out f(1,2);out f(2,2);if n>3{out f(3,n);out f(n,3);}out f(n,n);}", "CcCcc"},
		{"fn f(x,y)where x==y{}fn main(n){out f(2,2);out f(2,3);out f(n,n);if n>=2&&n<=3{out f(n,n);}return f(n,2);}", "Cc??c"},
		{"fn f(x,y)where x!=y{}fn main(n,m){out f(2,3);out f(2,2);out f(n,n);if n>3&&m<=3{out f(n,m);}if n>3&&m<=4{out f(n,m);}}", "CccCc"},
		{"fn f(x,y)where x>=y{}fn main(n,m){if n>=3&&m<=3{out f(n,m);}if n>=3&&m<=4{out f(n,m);}}", "Cc"},
		{"fn f(x)where x>0,x<10,x!=5{}fn main(n){out f(4);out f(5);out f(0);out f(10);}", "Cccc"}, {"fn f(x)where 1<2,3==3{}fn main(n){return f(n);}", "C"},
		{"fn f(x)where 1<2,2!=2{}fn main(n){return f(n);}", "c"}, {"fn f(x)where 1<1{return 1/0;}fn main(n){return f(n);}", "?c"},
		{"fn f()where 2>=2{}fn main(){return f();}", "C"},
		{"fn f(a,b,c,d)where a<b,b<c,c<d{}fn main(){out f(1,2,3,4);out f(1,2,4,3);}", "Cc"},
		{"fn f(a,b,c,d)where d<c{}fn main(){out f(9,9,2,1);out f(1,2,3,4);}", "Cc"},
		// Arguments are gone through like all else.
		{"fn f(x)where x>0{return x;}fn main(n){return f(f(1));}", "cC"}, {"fn f(x)where x>0{return x;}fn main(n){return f(1/n)+f(2/1);}", "cdCD"},
		{"arr a 3;fn f(x,y)where x<y{}fn g(x,y){}fn main(n){out f(1+2,2*2);return g(a[3],a[n%2+1]);}", "ClLD"},
		{"fn f(x)where x>0{}fn main(n){return 1;return f(0);}", "C"}, {"fn f(x)where x>0{}fn main(n){let i=3;if i>3{return f(0)/f(1/0);}}", "CDCD"},
		{"fn f(x)where x>=0,x<64{return b[x];}arr b 64;fn main(n){let i=0;while i<64{out f(i);i=i+1;}out f(i);}", "LCc"},
		{"fn main(n)where n>0,n<=9{return 9/n+main(n-1);}", "Dc"}, {"fn main(n)where n>=0,n<=9{if n>0{return main(n-1);}}", "C"},
		{"fn f(x){}fn main(n){return f(0)+f(n);}", ""},
	} {
		checkSites(t, c[0], c[1])
	}
}

// TestSitesAgreeWithTheOracle asks for just what is sure by ranges: others may be, but this program has none.
func TestSitesAgreeWithTheOracle(t *testing.T) {
	m := liveMaker{rand: rand.New(rand.NewSource(5))}
	seen := map[api.Site]int{}
	rounds := map[int]int{}
	for range 6000 {
		text := m.program()
		got := mustRead(t, text).Sites()
		want, most := oracleSites(text)
		if !slices.Equal(got, want) {
			t.Fatalf("P9, P10: Sites of %q: %v, want %v", text, got, want)
		}
		for _, site := range got {
			site.At = 0
			seen[site]++
		}
		rounds[most]++
	}
	for _, kind := range []int{api.Load, api.Store, api.Divide, api.Call} {
		for _, sure := range []bool{false, true} {
			if seen[api.Site{Kind: kind, Sure: sure}] < 500 {
				t.Errorf("only %d of %v of kind %d, %v", seen[api.Site{Kind: kind, Sure: sure}], seen, kind, sure)
			}
		}
	}
	for _, most := range []int{1, 2, 3, 4} {
		if rounds[most] < 50 {
			t.Errorf("only %d of %v with a while that is gone through %d times", rounds[most], rounds, most)
		}
	}
}

// TestNoRunTrapsWhereItIsSure also wants runs that trap elsewhere.
func TestNoRunTrapsWhereItIsSure(t *testing.T) {
	m := liveMaker{rand: rand.New(rand.NewSource(6))}
	traps := map[int]int{}
	for range 3000 {
		text := m.program()
		p := mustRead(t, text)
		sites := p.Sites()
		for range 6 {
			args := m.args(p.Params())
			got := p.Walk(args, 3000)
			if got.End != api.Trap {
				continue
			}
			if sites[got.Site].Sure {
				t.Fatalf("P11: Walk of %q, %v: %+v, but the site is sure", text, args, got)
			}
			traps[sites[got.Site].Kind]++
		}
	}
	for _, kind := range []int{api.Load, api.Store, api.Divide, api.Call} {
		if traps[kind] < 50 {
			t.Errorf("only %d traps of %v of kind %d", traps[kind], traps, kind)
		}
	}
}

func TestSitesAreNewMemory(t *testing.T) {
	text := "arr a 3;fn main(n){a[n]=1/n+a[2];}"
	p := mustRead(t, text)
	want := mustRead(t, text).Sites()
	for range 3 {
		list := p.Sites()
		if !slices.Equal(list, want) {
			t.Fatalf("P2: Sites of %q: %v, want %v", text, list, want)
		}
		list = list[:cap(list)]
		for i := range list {
			list[i] = api.Site{Kind: 9, At: 9, Sure: true}
		}
		p.Walk([]int64{math.MinInt64}, 99)
	}
	if got := p.Walk([]int64{7}, 99); !sameResult(got, trap(0)) {
		t.Errorf("P2: Walk behind lists that were written over: %+v", got)
	}
}

// deepLoops is what takes longest: each while is gone through four times, each time that the one around it is.
func deepLoops() string {
	head, tail := "fn main(n){let z=0;let p=0;let q=0;", ""
	for _, x := range strings.Fields("a b c d e f g h") {
		head += "let " + x + "=0;z=0;while 0<1{"
		tail = "z=0;if " + x + "<-5{z=1;}if " + x + ">5{" + x + "=0-9;}else{" + x + "=9;}p=0;q=0;}" + tail
	}
	return head + "z=0;p=0;q=0;while 0<1{out 1/q;out 1/n;p=q;q=z;z=1;}" + tail + "}"
}

func TestSitesOfDeepLoops(t *testing.T) {
	checkSites(t, deepLoops(), "dd")
}
